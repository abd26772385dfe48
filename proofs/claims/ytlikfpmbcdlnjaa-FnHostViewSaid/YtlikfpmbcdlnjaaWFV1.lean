/- Plain functions of the program, and that it hands back what they say. Made by program. -/
import Derived.Test.YtlikfpmbcdlnjaaWT
import Derived.Test.YtlikfpmbcdlnjaaProg
import Derived.Test.YtlikfpmbcdlnjaaWD1
import Derived.Test.YtlikfpmbcdlnjaaWGA1
import Derived.Test.YtlikfpmbcdlnjaaWHV1
import Derived.Test.YtlikfpmbcdlnjaaWI1
import Derived.Test.YtlikfpmbcdlnjaaWO1
namespace Go.Proofs.Ytlikfpmbcdlnjaa
open Go.RowKit
set_option maxRecDepth 100000
set_option linter.all false
set_option maxHeartbeats 0
def Lf14_r0 : List LOper := [oo 2 (.mv (.c (bb false)))]
def Lf14_r1 : List LOper := [om 11 0, oo 12 (.len (.t 11)), oo 13 (.bin .gtr (.t 12) (.c (ii 1048576)))]
def Lf14_r2 : List LOper := [oo 2 (.mv (.c (bb true)))]
def Lf14_r3 : List LOper := [om 15 0, oo 16 (.call 55 [(.t 15)]), om 14 16, oo 17 (.ext (.t 14) 0), oo 18 (.ext (.t 14) 1), oo 3 (.fresh 26 [.nil, .nil]), ⟨none, (.store 2 (.t 3) (.t 17)), none⟩, om 4 18]
def Lf14_r4 : List LOper := [oo 20 (.load true 2 (.t 3)), om 21 4, oo 22 (.call 22 [(.t 20), (.t 21)]), om 19 22, oo 23 (.ext (.t 19) 0), oo 24 (.ext (.t 19) 1), oo 5 (.fresh 30 zc1), ⟨none, (.store 16 (.t 5) (.t 23)), none⟩, om 6 24]
def Lf14_r5 : List LOper := [oo 26 (.load true 2 (.t 3)), om 27 4, oo 28 (.call 56 [(.t 26), (.t 27)]), om 25 28, oo 29 (.ext (.t 25) 0), oo 30 (.ext (.t 25) 1), oo 7 (.fresh 30 zc1), ⟨none, (.store 16 (.t 7) (.t 29)), none⟩, om 8 30]
def Lf14_r6 : List LOper := [om 31 6, om 32 8, oo 33 (.binb true (.t 31) (.t 32)), om 34 33, ⟨(some 35), (.load true 16 (.t 5)), (some (34, false))⟩, ⟨(some 36), (.load true 16 (.t 7)), (some (34, false))⟩, ⟨(some 37), (.call 24 [(.t 35), (.t 36)]), (some (34, false))⟩, ⟨(some 38), (.un .not (.t 37)), (some (34, false))⟩, oo 39 (.pick (.t 34) (.c (bb true)) (.t 38))]
def Lf14_r7 : List LOper := [oo 2 (.mv (.c (bb false)))]
def Lf14_r8 : List LOper := [om 40 6, oo 41 (.un .not (.t 40))]
def Lf14_r9 : List LOper := [oo 42 (.call 21 []), om 2 42]
def Lf14_r10 : List LOper := [oo 9 (.mv (.c (ii 0)))]
def Lf14_r11 : List LOper := [om 43 9, oo 44 (.bin .lss (.t 43) (.c (ii 8)))]
def Lf14_r12 : List LOper := [oo 10 (.mv (.c (ii 0)))]
def Lf14_r13 : List LOper := [om 47 10, oo 48 (.bin .lss (.t 47) (.c (ii 8)))]
def Lf14_r14 : List LOper := [oo 51 (.fadr 1 (.t 3)), oo 52 (.load false 1 (.t 51)), om 53 4, oo 54 (.iadr 17 (.t 52) (.t 53)), oo 55 (.fadr 14 (.t 54)), oo 56 (.load false 1 (.t 55)), om 57 9, oo 58 (.iadr 3 (.t 56) (.t 57)), oo 59 (.fadr 0 (.t 58)), oo 60 (.load false 1 (.t 59)), oo 61 (.bin .lss (.t 60) (.c (ii 0))), om 62 61, ⟨(some 63), (.fadr 13 (.t 5)), (some (62, true))⟩, ⟨(some 64), (.load false 1 (.t 63)), (some (62, true))⟩, ⟨(some 65), (.mv (.t 9)), (some (62, true))⟩, ⟨(some 66), (.bin .mul (.t 65) (.c (ii 8))), (some (62, true))⟩, ⟨(some 67), (.mv (.t 10)), (some (62, true))⟩, ⟨(some 68), (.bin .add (.t 66) (.t 67)), (some (62, true))⟩, ⟨(some 69), (.iadr 1 (.t 64) (.t 68)), (some (62, true))⟩, ⟨(some 70), (.load false 1 (.t 69)), (some (62, true))⟩, ⟨(some 71), (.bin .neq (.t 70) (.c (ii 0))), (some (62, true))⟩, oo 72 (.pick (.t 62) (.t 71) (.c (bb false)))]
def Lf14_r15 : List LOper := [oo 2 (.mv (.c (bb false)))]
def Lf14_r16 : List LOper := [om 49 10, oo 50 (.bin .add (.t 49) (.c (ii 1))), om 10 50]
def Lf14_l17 : LCode := (.seq (.seq (.reg false Lf14_r13) (.cond (.t 48) .skip (.exit 2))) (.seq (.block 3 (.seq (.reg false Lf14_r14) (.cond (.t 72) (.seq (.reg false Lf14_r15) .ret) .skip))) (.reg false Lf14_r16)))
def Lf14_r18 : List LOper := [om 45 9, oo 46 (.bin .add (.t 45) (.c (ii 1))), om 9 46]
def Lf14_l19 : LCode := (.seq (.seq (.reg false Lf14_r11) (.cond (.t 44) .skip (.exit 0))) (.seq (.block 1 (.seq (.reg false Lf14_r12) (.block 2 (.loop Lf14_l17)))) (.reg false Lf14_r18)))
def Lf14_r20 : List LOper := [oo 73 (.load true 16 (.t 5)), oo 74 (.call 57 [(.t 73)]), om 75 74, ⟨(some 76), (.fadr 0 (.t 5)), (some (75, true))⟩, ⟨(some 77), (.load true 13 (.t 76)), (some (75, true))⟩, ⟨(some 78), (.fadr 1 (.t 3)), (some (75, true))⟩, ⟨(some 79), (.load false 1 (.t 78)), (some (75, true))⟩, ⟨(some 80), (.mv (.t 4)), (some (75, true))⟩, ⟨(some 81), (.iadr 17 (.t 79) (.t 80)), (some (75, true))⟩, ⟨(some 82), (.fadr 1 (.t 81)), (some (75, true))⟩, ⟨(some 83), (.load true 13 (.t 82)), (some (75, true))⟩]
def Lf14_r20t : List LOper := [⟨(some 84), (.call 58 [(.t 77), (.t 83)]), (some (75, true))⟩, oo 85 (.pick (.t 75) (.t 84) (.c (bb false))), om 2 85]
def Lf14 : LFun := ⟨86, [(.tmp 2)], (.seq (.reg false Lf14_r0) (.seq (.seq (.reg false Lf14_r1) (.cond (.t 13) (.seq (.reg false Lf14_r2) .ret) .skip)) (.seq (.reg false Lf14_r3) (.seq (.reg false Lf14_r4) (.seq (.reg false Lf14_r5) (.seq (.seq (.reg false Lf14_r6) (.cond (.t 39) (.seq (.reg false Lf14_r7) .ret) .skip)) (.seq (.seq (.reg false Lf14_r8) (.cond (.t 41) (.seq (.reg false Lf14_r9) .ret) .skip)) (.seq (.seq (.reg false Lf14_r10) (.block 0 (.loop Lf14_l19))) (.seq (.regd Lf14_r20 Lf14_r20t) .ret)))))))))⟩
theorem low_laws_FnHostView : lowFun Go.Proofs.Try.prog 14 = some Lf14 := by kernel_rfl
noncomputable def F_laws_FnHostView_j6 (v1 : DHost × Int) (v2 : DBare × Bool) (s6 : Unit) : Option Bool :=
 Option.bind (F_impl_BareOk v2.1) fun v7 =>
 cond v7
  (grd ((0 : Int) ≤ v1.2 ∧ v1.2 < (((List.length v1.1.Guests) : Nat) : Int)) (Option.bind (F_laws_sameCore v2.1.C (DCore.mk (((List.getD v1.1.Guests (Int.toNat v1.2) default).C).Regs) (((List.getD v1.1.Guests (Int.toNat v1.2) default).C).Pc) (((List.getD v1.1.Guests (Int.toNat v1.2) default).C).Root) (((List.getD v1.1.Guests (Int.toNat v1.2) default).C).Vector) (((List.getD v1.1.Guests (Int.toNat v1.2) default).C).Saved) (((List.getD v1.1.Guests (Int.toNat v1.2) default).C).SavedUser) (((List.getD v1.1.Guests (Int.toNat v1.2) default).C).Cause) (((List.getD v1.1.Guests (Int.toNat v1.2) default).C).Bad) (((List.getD v1.1.Guests (Int.toNat v1.2) default).C).Timer) (((List.getD v1.1.Guests (Int.toNat v1.2) default).C).Waits) (((List.getD v1.1.Guests (Int.toNat v1.2) default).C).User) (((List.getD v1.1.Guests (Int.toNat v1.2) default).C).On) (((List.getD v1.1.Guests (Int.toNat v1.2) default).C).Stopped))) fun v8 =>
   some v8))
  (some false)
noncomputable def F_laws_FnHostView_j10 (s9 : Int) (s10 : Unit) : Option (LO Int (JO Unit Bool)) :=
 some (.next (w64 (s9 + (1 : Int))))
noncomputable def F_laws_FnHostView_j12 (s11 : Int) (s12 : Unit) : Option (LO Int (JO Unit (LO Int (JO Unit Bool)))) :=
 some (.next (w64 (s11 + (1 : Int))))
noncomputable def F_laws_FnHostView_l11 (v1 : DHost × Int) (v2 : DBare × Bool) (s9 : Int) (s11 : Int) : Option (LO Int (JO Unit (LO Int (JO Unit Bool)))) :=
 cond (decide (s11 < (8 : Int)))
  (Option.bind (grd ((0 : Int) ≤ v1.2 ∧ v1.2 < (((List.length v1.1.Guests) : Nat) : Int)) (grd ((0 : Int) ≤ s9 ∧ s9 < (((List.length ((List.getD v1.1.Guests (Int.toNat v1.2) default).Pages)) : Nat) : Int)) (cond (decide (((List.getD ((List.getD v1.1.Guests (Int.toNat v1.2) default).Pages) (Int.toNat s9) default).Frame) < (0 : Int)))
   (grd ((0 : Int) ≤ (w64 ((w64 (s9 * (8 : Int))) + s11)) ∧ (w64 ((w64 (s9 * (8 : Int))) + s11)) < (((List.length v2.1.Mem) : Nat) : Int)) (cond (!decide ((List.getD v2.1.Mem (Int.toNat (w64 ((w64 (s9 * (8 : Int))) + s11))) default) = (0 : Int)))
    (some (.out (.ret (.out (.ret (.out false))))))
    (some (.go ()))))
   (some (.go ()))))) fun j12 =>
   JO.run j12 (F_laws_FnHostView_j12 s11))
  (some (.ret (.go ())))
noncomputable def F_laws_FnHostView_l9 (v1 : DHost × Int) (v2 : DBare × Bool) (s9 : Int) : Option (LO Int (JO Unit Bool)) :=
 cond (decide (s9 < (8 : Int)))
  (Option.bind (Option.bind (iter (F_laws_FnHostView_l11 v1 v2 s9) (0 : Int)) LO.val) fun j10 =>
   JO.run j10 (F_laws_FnHostView_j10 s9))
  (some (.ret (.go ())))
noncomputable def F_laws_FnHostView (x_code : List Int) : Option Bool :=
 cond (decide ((1048576 : Int) < (((List.length x_code) : Nat) : Int)))
  (some true)
  (Option.bind (F_spec_DrawHostView x_code) fun v1 =>
  Option.bind (F_impl_HostView v1.1 v1.2) fun v2 =>
  Option.bind (F_spec_HostView v1.1 v1.2) fun v3 =>
  cond (!(v2.2 == v3.2))
   (some false)
   (Option.bind (F_laws_sameBare v2.1 v3.1) fun v4 =>
   cond (!v4)
    (some false)
    (cond (!v2.2)
     (Option.bind (F_laws_alive ) fun v5 =>
     some v5)
     (Option.bind (Option.bind (iter (F_laws_FnHostView_l9 v1 v2) (0 : Int)) LO.val) fun j6 =>
      JO.run j6 (F_laws_FnHostView_j6 v1 v2)))))
theorem laws_FnHostView_fn {x_code : List Int} {R_ : Bool} (hh : F_laws_FnHostView x_code = some R_) : Fn Try.prog 14 [bo (eI .u8) x_code] (.bool R_) := by
 let z5 : EV := (0, bo (eI .u8) x_code)
 let z6 : EV := (13, bb (decide ((1048576 : Int) < (((List.length x_code) : Nat) : Int))))
 let z7 : EV := (3, pp 0)
 let z8 : EV := (3, pp 2)
 let z9 : EV := (5, pp 3)
 let z10 : EV := (5, pp 7)
 let z1 := List.drop 3 Lf14_r20
 unfold F_laws_FnHostView at hh
 refine Fn.start low_laws_FnHostView [0] (E := sp 86 [z5]) kr (v := bb R_) (Hr := []) (k := 0) kr (sy [0] [] (sp 86 [z5]) [] 0 (Aw.seq (sy [0, 13] [] (sp 86 [z5, z6]) [] 0 ?_)))
 rcases cond_some hh with ⟨hb, hh⟩ | ⟨hb, hh⟩
 · exact cT hb (sy [2] [] (sp 86 [(2, bb true)]) [] 0 (Aw.ret (then_r (gvbs hh))))
 refine cF hb (Aw.xskip (fun _ _ _ hq => then_m hq) (Aw.sreg [3, 4] [0, 1, 2] (yj 1  (sp 86 [z5, z6, (15, bo (eI .u8) x_code)]) [] 0 ?_)))
 obtain ⟨v1, hv1, hh⟩ := bind_some hh
 let z11 : EV := (4, ii v1.2)
 let z12 : EV := (52, .sref 2 [] 0 (List.length v1.1.Guests) 17)
 let z13 : EV := (54, .ptr 2 [] (0 + (Int.toNat v1.2) * 17))
 let z14 : EV := (55, .ptr 2 [] (0 + (Int.toNat v1.2) * 17 + 14))
 let z15 : EV := (79, .sref 2 [] 0 (List.length v1.1.Guests) 17)
 let z16 : EV := (81, .ptr 2 [] (0 + (Int.toNat v1.2) * 17))
 let z17 : EV := (82, .ptr 2 [] (0 + (Int.toNat v1.2) * 17 + 1))
 let z2 := List.getD v1.1.Guests (Int.toNat v1.2) default
 let z18 : EV := (56, .sref 2 [0 + (Int.toNat v1.2) * 17 + 14 + 0] 0 (List.length (z2.Pages)) 3)
 let q1 : Root := ⟨53, (fl O_53 v1.1.Guests)⟩
 let z19 : EH := (1, some q1)
 let z20 : EH := (2, some q1)
 let q2 : Root := ⟨3, (fl (eI .i64) v1.1.Words)⟩
 let z21 : EH := (0, some q2)
 let z22 : EH := (1, some q2)
 refine ys (.call 55 [(.t 15)]) (some 16) (op_call (r := .tup [.agg [.own 3 1 (List.length v1.1.Words) (fl (eI .i64) v1.1.Words), .own 53 17 (List.length v1.1.Guests) (fl O_53 v1.1.Guests)], ii v1.2]) (v := .tup [.agg [sw 0 v1.1.Words, .sref 1 [] 0 (List.length v1.1.Guests) 17], ii v1.2]) (Hr := [z19, z21]) (n' := 2) (spec_DrawHostView_fn hv1) (clz_v (vs := [bo (eI .u8) x_code]) kr (clz_c (clo_same (clean_bor (cleans_fl cl_eI))) clz_n)) (by simp only [AV.noRef, noRefs, Bool.and_self, noRefs_fl nr_eI, noRefs_fl nr_O_53]) (by simp only [AV.noBor, noBors, Bool.and_self, noBors_fl nb_eI, noBors_fl nb_O_53]) kr ?_)
 let q3 : Root := ⟨26, [sw 0 v1.1.Words, .sref 1 [] 0 (List.length v1.1.Guests) 17]⟩
 let z23 : EH := (2, some q3)
 refine yt (sp 86 [z8, z11]) [z21, z19, z23] 3 (Aw.sreg [3, 4, 5, 6] [0, 1, 2, 3, 4, 5, 6, 7] (yu 2 [(20, .agg [sw 0 v1.1.Words, .sref 1 [] 0 (List.length v1.1.Guests) 17]), (21, ii v1.2)] [z21, z19, z23] 3 ?_))
 obtain ⟨v2, hv2, hh⟩ := bind_some hh
 let z24 : EV := (6, bb v2.2)
 let z25 : EV := (73, .agg (sw 4 v2.1.C.Regs :: ru28 v2.1.C [sw 5 v2.1.Mem, sw 6 v2.1.In, sw 7 v2.1.Out]))
 let z26 : EV := (77, .agg (sw 4 v2.1.C.Regs :: ru28 v2.1.C []))
 let q4 : Root := ⟨3, (fl (eI .i64) v2.1.Out)⟩
 let z27 : EH := (6, some q4)
 let z28 : EH := (7, some q4)
 let q5 : Root := ⟨3, (fl (eI .i64) v2.1.In)⟩
 let z29 : EH := (5, some q5)
 let z30 : EH := (6, some q5)
 let q6 : Root := ⟨3, (fl (eI .i64) v2.1.Mem)⟩
 let z31 : EH := (4, some q6)
 let z32 : EH := (5, some q6)
 let q7 : Root := ⟨3, (fl (eI .i64) v2.1.C.Regs)⟩
 let z33 : EH := (3, some q7)
 let z34 : EH := (4, some q7)
 refine ys (.call 22 [(.t 20), (.t 21)]) (some 22) (op_call (r := .tup [.agg (.own 3 1 (List.length v2.1.C.Regs) (fl (eI .i64) v2.1.C.Regs) :: ru28 v2.1.C [.own 3 1 (List.length v2.1.Mem) (fl (eI .i64) v2.1.Mem), .own 3 1 (List.length v2.1.In) (fl (eI .i64) v2.1.In), .own 3 1 (List.length v2.1.Out) (fl (eI .i64) v2.1.Out)]), bb v2.2]) (v := .tup [.agg (sw 3 v2.1.C.Regs :: ru28 v2.1.C [sw 4 v2.1.Mem, sw 5 v2.1.In, sw 6 v2.1.Out]), bb v2.2]) (Hr := [z27, z29, z31, z33]) (n' := 7) (impl_HostView_fn hv2) (clz_v (vs := [.agg [sw 0 v1.1.Words, .sref 1 [] 0 (List.length v1.1.Guests) 17], ii v1.2]) kr (clz_c (clo_agg (clos_c (clo_own (c := (eI .i64)) (xs := v1.1.Words) (e := 3) eqn len_eI no_eI cl_eI kr) (clos_c (clo_flr (B := B_53) (xs := v1.1.Guests) (e := 53) oc_O_53 len_O_53 eqn kr) clos_n))) (cz1 clz_n))) (by simp only [ru28, AV.noRef, noRefs, Bool.and_self, noRefs_fl nr_eI]) (by simp only [ru28, AV.noBor, noBors, Bool.and_self, noBors_fl nb_eI]) kr ?_)
 let q8 : Root := ⟨30, (sw 3 v2.1.C.Regs :: ru28 v2.1.C [sw 4 v2.1.Mem, sw 5 v2.1.In, sw 6 v2.1.Out])⟩
 let z35 : EH := (7, some q8)
 refine yt (sp 86 [z8, z11, z10, z24]) [z21, z19, z23, z33, z31, z29, z27, z35] 8 (Aw.sreg [3, 4, 5, 6, 7, 8] [0, 1, 2, 3, 4, 5, 6, 7, 8, 9, 10, 11, 12] (yu 2 [(26, .agg [sw 0 v1.1.Words, .sref 1 [] 0 (List.length v1.1.Guests) 17]), (27, ii v1.2)] [z21, z19, z23, z33, z31, z29, z27, z35] 8 ?_))
 obtain ⟨v3, hv3, hh⟩ := bind_some hh
 let q9 : Root := ⟨3, (fl (eI .i64) v3.1.Out)⟩
 let q10 : Root := ⟨3, (fl (eI .i64) v3.1.In)⟩
 let z36 : EH := (10, some q10)
 let q11 : Root := ⟨3, (fl (eI .i64) v3.1.Mem)⟩
 let q12 : Root := ⟨3, (fl (eI .i64) v3.1.C.Regs)⟩
 refine ys (.call 56 [(.t 26), (.t 27)]) (some 28) (op_call (r := .tup [.agg (.own 3 1 (List.length v3.1.C.Regs) (fl (eI .i64) v3.1.C.Regs) :: ru28 v3.1.C [.own 3 1 (List.length v3.1.Mem) (fl (eI .i64) v3.1.Mem), .own 3 1 (List.length v3.1.In) (fl (eI .i64) v3.1.In), .own 3 1 (List.length v3.1.Out) (fl (eI .i64) v3.1.Out)]), bb v3.2]) (v := .tup [.agg (sw 8 v3.1.C.Regs :: ru28 v3.1.C [sw 9 v3.1.Mem, sw 10 v3.1.In, sw 11 v3.1.Out]), bb v3.2]) (Hr := [(11, some q9), z36, (9, some q11), (8, some q12)]) (n' := 12) (spec_HostView_fn hv3) (clz_v (vs := [.agg [sw 0 v1.1.Words, .sref 1 [] 0 (List.length v1.1.Guests) 17], ii v1.2]) kr (clz_c (clo_agg (clos_c (clo_own (c := (eI .i64)) (xs := v1.1.Words) (e := 3) eqn len_eI no_eI cl_eI kr) (clos_c (clo_flr (B := B_53) (xs := v1.1.Guests) (e := 53) oc_O_53 len_O_53 eqn kr) clos_n))) (cz1 clz_n))) (by simp only [ru28, AV.noRef, noRefs, Bool.and_self, noRefs_fl nr_eI]) (by simp only [ru28, AV.noBor, noBors, Bool.and_self, noBors_fl nb_eI]) kr ?_)
 let q13 : Root := ⟨30, (sw 8 v3.1.C.Regs :: ru28 v3.1.C [sw 9 v3.1.Mem, sw 10 v3.1.In, sw 11 v3.1.Out])⟩
 refine yt (sp 86 [z8, z11, z10, z24, (7, pp 12), (8, bb v3.2)]) [z21, z19, z23, z33, z31, z29, z27, z35, (8, some q12), (9, some q11), z36, (11, some q9), (12, some q13)] 13 (Aw.seq (Aw.sreg [3, 4, 5, 6, 39] [0, 1, 2, 3, 4, 5, 6, 7] (yj 4  (sp 86 [z8, z11, z10, z24, (7, pp 12), (8, bb v3.2), (31, bb v2.2), (32, bb v3.2), (33, bb (!(v2.2 == v3.2))), (34, bb (!(v2.2 == v3.2)))]) [z21, z19, z23, z33, z31, z29, z27, z35, (8, some q12), (9, some q11), z36, (11, some q9), (12, some q13)] 13 ?_)))
 rcases cond_some hh with ⟨hb, hh⟩ | ⟨hb, hh⟩
 · exact yb 33 hb (yb 34 hb (yt (sp 86 [z8, z11, z10, z24, (39, bb true)]) [z21, z19, z23, z33, z31, z29, z27, z35] 13 (cT rfl (sy [2] [] (sp 86 [(2, bb false)]) [] 13 (Aw.ret (then_r (gvbs hh)))))))
 refine yb 33 hb (yb 34 hb (yu 2 [(33, bb false), (34, bb false), (35, .agg (sw 3 v2.1.C.Regs :: ru28 v2.1.C [sw 4 v2.1.Mem, sw 5 v2.1.In, sw 6 v2.1.Out])), (36, .agg (sw 8 v3.1.C.Regs :: ru28 v3.1.C [sw 9 v3.1.Mem, sw 10 v3.1.In, sw 11 v3.1.Out]))] [z21, z19, z23, z33, z31, z29, z27, z35, (8, some q12), (9, some q11), z36, (11, some q9), (12, some q13)] 13 ?_))
 obtain ⟨v4, hv4, hh⟩ := bind_some hh
 refine yg (.call 24 [(.t 35), (.t 36)]) (some 37) 34 false (op_call (r := bb v4) (v := bb v4) (Hr := []) (n' := 13) (laws_sameBare_fn hv4) (clz_v (vs := [.agg (sw 3 v2.1.C.Regs :: ru28 v2.1.C [sw 4 v2.1.Mem, sw 5 v2.1.In, sw 6 v2.1.Out]), .agg (sw 8 v3.1.C.Regs :: ru28 v3.1.C [sw 9 v3.1.Mem, sw 10 v3.1.In, sw 11 v3.1.Out])]) kr (clz_c (clo_agg (clos_c (clo_own (c := (eI .i64)) (xs := v2.1.C.Regs) (e := 3) eqn len_eI no_eI cl_eI kr) (cs1 (cs1 (cs1 (cs1 (cs1 (cs1 (cs1 (cs1 (cs1 (cs1 (cs1 (cs1 (clos_c (clo_own (c := (eI .i64)) (xs := v2.1.Mem) (e := 3) eqn len_eI no_eI cl_eI kr) (clos_c (clo_own (c := (eI .i64)) (xs := v2.1.In) (e := 3) eqn len_eI no_eI cl_eI kr) (clos_c (clo_own (c := (eI .i64)) (xs := v2.1.Out) (e := 3) eqn len_eI no_eI cl_eI kr) clos_n))))))))))))))))) (clz_c (clo_agg (clos_c (clo_own (c := (eI .i64)) (xs := v3.1.C.Regs) (e := 3) eqn len_eI no_eI cl_eI kr) (cs1 (cs1 (cs1 (cs1 (cs1 (cs1 (cs1 (cs1 (cs1 (cs1 (cs1 (cs1 (clos_c (clo_own (c := (eI .i64)) (xs := v3.1.Mem) (e := 3) eqn len_eI no_eI cl_eI kr) (clos_c (clo_own (c := (eI .i64)) (xs := v3.1.In) (e := 3) eqn len_eI no_eI cl_eI kr) (clos_c (clo_own (c := (eI .i64)) (xs := v3.1.Out) (e := 3) eqn len_eI no_eI cl_eI kr) clos_n))))))))))))))))) clz_n))) rfl rfl kr ?_)
 refine yt (sp 86 [z8, z11, z10, z24, (39, bb (!v4))]) [z21, z19, z23, z33, z31, z29, z27, z35] 13 ?_
 rcases cond_some hh with ⟨hb, hh⟩ | ⟨hb, hh⟩
 · exact cT hb (sy [2] [] (sp 86 [(2, bb false)]) [] 13 (Aw.ret (then_r (gvbs hh))))
 refine cF hb (Aw.xskip (fun _ _ _ hq => then_m hq) (Aw.seq (sy [3, 4, 5, 41] [0, 1, 2, 3, 4, 5, 6, 7] (sp 86 [z8, z11, z10, (41, bb (!v2.2))]) [z21, z19, z23, z33, z31, z29, z27, z35] 13 ?_)))
 rcases cond_some hh with ⟨hb, hh⟩ | ⟨hb, hh⟩
 · refine cT hb (Aw.sreg [2] [] ?_)
   obtain ⟨v5, hv5, hh⟩ := bind_some hh
   refine ys (.call 21 []) (some 42) (oc (laws_alive_fn hv5) ?_)
   exact yt (sp 86 [(2, bb v5)]) [] 13 (Aw.ret (then_r (gvbs hh)))
 refine cF hb (Aw.xskip (fun _ _ _ hq => then_m hq) ?_)
 obtain ⟨j6, hh, hk6⟩ := bind_some hh
 refine Aw.join (S := Unit) (fun s6 => sp 86 [(3, pp 0), (4, ii v1.2), (5, pp 3)]) (fun s6 => [(0, some ⟨26, [sw 1 v1.1.Words, .sref 2 [] 0 (List.length v1.1.Guests) 17]⟩), (1, some ⟨3, (fl (eI .i64) v1.1.Words)⟩), (2, some ⟨53, (fl O_53 v1.1.Guests)⟩), (3, some ⟨30, (sw 4 v2.1.C.Regs :: ru28 v2.1.C [sw 5 v2.1.Mem, sw 6 v2.1.In, sw 7 v2.1.Out])⟩), (4, some ⟨3, (fl (eI .i64) v2.1.C.Regs)⟩), (5, some ⟨3, (fl (eI .i64) v2.1.Mem)⟩), (6, some ⟨3, (fl (eI .i64) v2.1.In)⟩), (7, some ⟨3, (fl (eI .i64) v2.1.Out)⟩)]) 8 (fun s6 => F_laws_FnHostView_j6 v1 v2 s6 = some R_) ?_ ?_
 · intro s6 hh
   unfold F_laws_FnHostView_j6 at hh
   refine Aw.sregd [2] [] [] kr ?_
   let q14 : Root := ⟨26, [sw 1 v1.1.Words, .sref 2 [] 0 (List.length v1.1.Guests) 17]⟩
   let z37 : EH := (0, some q14)
   let q15 : Root := ⟨30, (sw 4 v2.1.C.Regs :: ru28 v2.1.C [sw 5 v2.1.Mem, sw 6 v2.1.In, sw 7 v2.1.Out])⟩
   let z38 : EH := (3, some q15)
   refine dc (cs := []) (E' := (sp 86 [z7, z11, z9, z25])) (H' := [z37, z22, z20, z38, z34, z32, z30, z28]) (n' := 8) (fs' := none) (pre := (List.take 1 Lf14_r20)) (L' := (List.drop 1 Lf14_r20)) kr (fun K => by kernel_rfl) .nil ?_
   obtain ⟨v7, hv7, hh⟩ := bind_some hh
   refine ds (.call 57 [(.t 73)]) (some 74) (ydo_n rfl (op_call (r := bb v7) (v := bb v7) (Hr := []) (n' := 8) (impl_BareOk_fn hv7) (clz_v (vs := [.agg (sw 4 v2.1.C.Regs :: ru28 v2.1.C [sw 5 v2.1.Mem, sw 6 v2.1.In, sw 7 v2.1.Out])]) kr (clz_c (clo_agg (clos_c (clo_own (c := (eI .i64)) (xs := v2.1.C.Regs) (e := 3) eqn len_eI no_eI cl_eI kr) (cs1 (cs1 (cs1 (cs1 (cs1 (cs1 (cs1 (cs1 (cs1 (cs1 (cs1 (cs1 (clos_c (clo_own (c := (eI .i64)) (xs := v2.1.Mem) (e := 3) eqn len_eI no_eI cl_eI kr) (clos_c (clo_own (c := (eI .i64)) (xs := v2.1.In) (e := 3) eqn len_eI no_eI cl_eI kr) (clos_c (clo_own (c := (eI .i64)) (xs := v2.1.Out) (e := 3) eqn len_eI no_eI cl_eI kr) clos_n))))))))))))))))) clz_n)) rfl rfl kr ⟨⟨agr_name (n := 8) (n0 := 8) (r := bb v7) (v := bb v7) (Hr := []) (n' := 8) kr dd, Hld.un ?_⟩⟩))
   refine dc (cs := []) (E' := (sp 86 [z7, z11, z9, z25, (74, bb v7), (75, bb v7)])) (H' := [z37, z22, z20, z38, z34, z32, z30, z28]) (n' := 8) (fs' := none) (pre := (List.take 1 (List.drop 2 Lf14_r20))) (L' := z1) kr (fun K => by kernel_rfl) .nil ?_
   rcases cond_some hh with ⟨hb, hh⟩ | ⟨hb, hh⟩
   · refine dbs (t := 74) hb kr (dbs (t := 75) hb kr ?_)
     obtain ⟨hg326, hh⟩ := grd_some hh
     refine dc (cs := [(0 : Int) ≤ v1.2 ∧ v1.2 < (((List.length v1.1.Guests) : Nat) : Int)]) (E' := (sp 86 [z7, z11, z9, z25, (74, bb true), (75, bb true), (76, pp 3), z26, (78, .ptr 0 [] 1), z15, (80, ii v1.2), z16, z17])) (H' := [z37, z22, z20, z38, z34, z32, z30, z28]) (n' := 8) (fs' := none) (pre := (List.take 7 z1)) (L' := (List.drop 10 Lf14_r20)) kr (fun K => by kernel_rfl) (.cons hg326 .nil) (dsg (op := (.load true 13 (.t 82))) (d := (some 83)) (t := 75) (want := true) (os := (List.drop 11 Lf14_r20)) kr kr rfl (ydo_q rfl kr (op_loadA (c := O_53) (xs := v1.1.Guests) (e := 53) (r := 2) (π := []) (o := 0 + (Int.toNat v1.2) * 17 + 1) (i := (Int.toNat v1.2)) (off := 1) (v := .agg [.sref 2 [0 + (Int.toNat v1.2) * 17 + 1 + 0] 0 (List.length ((z2.C).Regs)) 1, ii ((z2.C).Pc), ii ((z2.C).Root), ii ((z2.C).Vector), ii ((z2.C).Saved), bb ((z2.C).SavedUser), ii ((z2.C).Cause), ii ((z2.C).Bad), ii ((z2.C).Timer), bb ((z2.C).Waits), bb ((z2.C).User), bb ((z2.C).On), bb ((z2.C).Stopped)]) len_O_53 kr kr ltn ltn dd kr ?_)))
     refine dct (cs := []) (E' := (sp 86 [z7, z11, z9, z25, (74, bb true), (75, bb true), (76, pp 3), z26, (78, .ptr 0 [] 1), z15, (80, ii v1.2), z16, z17, (83, .agg [.sref 2 [0 + (Int.toNat v1.2) * 17 + 1 + 0] 0 (List.length ((z2.C).Regs)) 1, ii ((z2.C).Pc), ii ((z2.C).Root), ii ((z2.C).Vector), ii ((z2.C).Saved), bb ((z2.C).SavedUser), ii ((z2.C).Cause), ii ((z2.C).Bad), ii ((z2.C).Timer), bb ((z2.C).Waits), bb ((z2.C).User), bb ((z2.C).On), bb ((z2.C).Stopped)])])) (H' := [z37, z22, z20, z38, z34, z32, z30, z28]) (n' := 8) (fun K => by kernel_rfl) .nil ?_
     obtain ⟨v8, hv8, hh⟩ := bind_some hh
     refine yg (.call 58 [(.t 77), (.t 83)]) (some 84) 75 true (op_call (r := bb v8) (v := bb v8) (Hr := []) (n' := 8) (laws_sameCore_fn hv8) (clz_v (vs := [.agg (sw 4 v2.1.C.Regs :: ru28 v2.1.C []), .agg [.sref 2 [0 + (Int.toNat v1.2) * 17 + 1 + 0] 0 (List.length ((z2.C).Regs)) 1, ii ((z2.C).Pc), ii ((z2.C).Root), ii ((z2.C).Vector), ii ((z2.C).Saved), bb ((z2.C).SavedUser), ii ((z2.C).Cause), ii ((z2.C).Bad), ii ((z2.C).Timer), bb ((z2.C).Waits), bb ((z2.C).User), bb ((z2.C).On), bb ((z2.C).Stopped)]]) kr (clz_c (clo_agg (clos_c (clo_own (c := (eI .i64)) (xs := v2.1.C.Regs) (e := 3) eqn len_eI no_eI cl_eI kr) cz)) (clz_c (clo_agg (clos_c (clo_own (c := (eI .i64)) (xs := (z2.C).Regs) (e := 3) eqn len_eI no_eI cl_eI (get_fl (e := 53) (e' := 3) (sz' := 1) (m' := (List.length ((z2.C).Regs))) (cs' := (fl (eI .i64) ((z2.C).Regs))) (c := O_53) (xs := v1.1.Guests) (i := (Int.toNat v1.2)) (off := 1) len_O_53 kr ltn ltn dd rfl kr)) cz)) clz_n))) rfl rfl kr ?_)
     exact yt (sp 86 [(2, bb v8)]) [] 8 (Aw.ret (gvbs hh))
   exact dbs (t := 74) hb kr (dbs (t := 75) hb kr (dct (cs := []) (E' := (sp 86 [z7, z11, z9, z25, (74, bb false), (75, bb false), (76, .und), (77, .und), (78, .und), (79, .und), (80, .und), (81, .und), (82, .und), (83, .und)])) (H' := [z37, z22, z20, z38, z34, z32, z30, z28]) (n' := 8) (fun K => by kernel_rfl) .nil (yt (sp 86 [(2, bb false)]) [] 8 (Aw.ret (gvbs hh)))))
 intro Q6 hN6 hR6 hE6
 refine sy [3, 4, 5, 9] [0, 1, 2, 3, 4, 5, 6, 7] (sp 86 [z8, z11, z10, (9, ii 0)]) [z21, z19, z23, z33, z31, z29, z27, z35] 13 (Aw.block ?_)
 obtain ⟨o9, hi9, hk9⟩ := bind_some hh
 refine Aw.iter (fun (s9 : Int) => sp 86 [(3, pp 0), (4, ii v1.2), (5, pp 3), (9, ii s9)]) (fun (s9 : Int) => [(0, some ⟨26, [sw 1 v1.1.Words, .sref 2 [] 0 (List.length v1.1.Guests) 17]⟩), (1, some ⟨3, (fl (eI .i64) v1.1.Words)⟩), (2, some ⟨53, (fl O_53 v1.1.Guests)⟩), (3, some ⟨30, (sw 4 v2.1.C.Regs :: ru28 v2.1.C [sw 5 v2.1.Mem, sw 6 v2.1.In, sw 7 v2.1.Out])⟩), (4, some ⟨3, (fl (eI .i64) v2.1.C.Regs)⟩), (5, some ⟨3, (fl (eI .i64) v2.1.Mem)⟩), (6, some ⟨3, (fl (eI .i64) v2.1.In)⟩), (7, some ⟨3, (fl (eI .i64) v2.1.Out)⟩)]) 8 hi9 (el [some 2, some 0, some 1, some 7, some 3, some 4, some 5, some 6] (rens_sp kr (rp 2 (ri (rp 7 (ri rl_n))))) (hq q3 rz (hn nr_eI (hn nr_O_53 (hq q8 rz (hn nr_eI (hn nr_eI (hn nr_eI (hn nr_eI hs_nil))))))))) ?_
 intro s9 u9 Q9 hh hN9 hX9 hR9
 let z39 : EV := (58, .ptr 2 [0 + (Int.toNat v1.2) * 17 + 14 + 0] (0 + (Int.toNat s9) * 3))
 let z40 : EV := (59, .ptr 2 [0 + (Int.toNat v1.2) * 17 + 14 + 0] (0 + (Int.toNat s9) * 3 + 0))
 let z41 : EV := (9, ii s9)
 let z4 := List.getD (z2.Pages) (Int.toNat s9) default
 unfold F_laws_FnHostView_l9 at hh
 refine Aw.seq (Aw.sreg [3, 4, 5, 9, 44] [0, 1, 2, 3, 4, 5, 6, 7] ?_)
 let q16 : Root := ⟨26, [sw 1 v1.1.Words, .sref 2 [] 0 (List.length v1.1.Guests) 17]⟩
 let z42 : EH := (0, some q16)
 let q17 : Root := ⟨30, (sw 4 v2.1.C.Regs :: ru28 v2.1.C [sw 5 v2.1.Mem, sw 6 v2.1.In, sw 7 v2.1.Out])⟩
 let z43 : EH := (3, some q17)
 refine yt (sp 86 [z7, z11, z9, z41, (44, bb (decide (s9 < (8 : Int))))]) [z42, z22, z20, z43, z34, z32, z30, z28] 8 ?_
 rcases cond_some hh with ⟨hb, hh⟩ | ⟨hb, hh⟩
 · refine cT hb (Aw.xskip (fun _ _ _ hq => then_m hq) ?_)
   obtain ⟨j10, hh, hk10⟩ := bind_some hh
   refine Aw.join (S := Unit) (fun s10 => sp 86 [(3, pp 0), (4, ii v1.2), (5, pp 3), (9, ii s9)]) (fun s10 => [(0, some ⟨26, [sw 1 v1.1.Words, .sref 2 [] 0 (List.length v1.1.Guests) 17]⟩), (1, some ⟨3, (fl (eI .i64) v1.1.Words)⟩), (2, some ⟨53, (fl O_53 v1.1.Guests)⟩), (3, some ⟨30, (sw 4 v2.1.C.Regs :: ru28 v2.1.C [sw 5 v2.1.Mem, sw 6 v2.1.In, sw 7 v2.1.Out])⟩), (4, some ⟨3, (fl (eI .i64) v2.1.C.Regs)⟩), (5, some ⟨3, (fl (eI .i64) v2.1.Mem)⟩), (6, some ⟨3, (fl (eI .i64) v2.1.In)⟩), (7, some ⟨3, (fl (eI .i64) v2.1.Out)⟩)]) 8 (fun s10 => F_laws_FnHostView_j10 s9 s10 = some u9) ?_ ?_
   · intro s10 hh
     unfold F_laws_FnHostView_j10 at hh
     exact Aw.oreg (ye (sp 86 [z7, z11, z9, (9, ii (w64 (s9 + (1 : Int)))), (45, ii s9), (46, ii (w64 (s9 + (1 : Int))))]) [z42, z22, z20, z43, z34, z32, z30, z28] 8 (hN9 (w64 (s9 + (1 : Int))) _ _ _ (some_some hh) (el [some 0, some 1, some 2, some 3, some 4, some 5, some 6, some 7] (rens_sp kr (rp 0 (ri (rp 3 (ri rl_n))))) (hq q16 rz (hn nr_eI (hn nr_O_53 (hq q17 rz (hn nr_eI (hn nr_eI (hn nr_eI (hn nr_eI hs_nil)))))))))))
   intro Q10 hN10 hR10 hE10
   refine Aw.block (sy [3, 4, 5, 9, 10] [0, 1, 2, 3, 4, 5, 6, 7] (sp 86 [z7, z11, z9, z41, (10, ii 0)]) [z42, z22, z20, z43, z34, z32, z30, z28] 8 (Aw.block ?_))
   obtain ⟨o11, hi11, hk11⟩ := bind_some hh
   refine Aw.iter (fun (s11 : Int) => sp 86 [(3, pp 0), (4, ii v1.2), (5, pp 3), (9, ii s9), (10, ii s11)]) (fun (s11 : Int) => [(0, some ⟨26, [sw 1 v1.1.Words, .sref 2 [] 0 (List.length v1.1.Guests) 17]⟩), (1, some ⟨3, (fl (eI .i64) v1.1.Words)⟩), (2, some ⟨53, (fl O_53 v1.1.Guests)⟩), (3, some ⟨30, (sw 4 v2.1.C.Regs :: ru28 v2.1.C [sw 5 v2.1.Mem, sw 6 v2.1.In, sw 7 v2.1.Out])⟩), (4, some ⟨3, (fl (eI .i64) v2.1.C.Regs)⟩), (5, some ⟨3, (fl (eI .i64) v2.1.Mem)⟩), (6, some ⟨3, (fl (eI .i64) v2.1.In)⟩), (7, some ⟨3, (fl (eI .i64) v2.1.Out)⟩)]) 8 hi11 (el [some 0, some 1, some 2, some 3, some 4, some 5, some 6, some 7] (rens_sp kr (rp 0 (ri (rp 3 (ri (ri rl_n)))))) (hq q16 rz (hn nr_eI (hn nr_O_53 (hq q17 rz (hn nr_eI (hn nr_eI (hn nr_eI (hn nr_eI hs_nil))))))))) ?_
   intro s11 u11 Q11 hh hN11 hX11 hR11
   let z44 : EV := (10, ii s11)
   let z45 : EV := (48, bb (decide (s11 < (8 : Int))))
   let z3 := List.getD v2.1.Mem (Int.toNat (w64 ((w64 (s9 * (8 : Int))) + s11))) default
   unfold F_laws_FnHostView_l11 at hh
   refine Aw.seq (sy [3, 4, 5, 9, 10, 48] [0, 1, 2, 3, 4, 5, 6, 7] (sp 86 [z7, z11, z9, z41, z44, z45]) [z42, z22, z20, z43, z34, z32, z30, z28] 8 ?_)
   rcases cond_some hh with ⟨hb, hh⟩ | ⟨hb, hh⟩
   · refine cT hb (Aw.xskip (fun _ _ _ hq => then_m hq) ?_)
     obtain ⟨j12, hh, hk12⟩ := bind_some hh
     refine Aw.join (S := Unit) (fun s12 => sp 86 [(3, pp 0), (4, ii v1.2), (5, pp 3), (9, ii s9), (10, ii s11)]) (fun s12 => [(0, some ⟨26, [sw 1 v1.1.Words, .sref 2 [] 0 (List.length v1.1.Guests) 17]⟩), (1, some ⟨3, (fl (eI .i64) v1.1.Words)⟩), (2, some ⟨53, (fl O_53 v1.1.Guests)⟩), (3, some ⟨30, (sw 4 v2.1.C.Regs :: ru28 v2.1.C [sw 5 v2.1.Mem, sw 6 v2.1.In, sw 7 v2.1.Out])⟩), (4, some ⟨3, (fl (eI .i64) v2.1.C.Regs)⟩), (5, some ⟨3, (fl (eI .i64) v2.1.Mem)⟩), (6, some ⟨3, (fl (eI .i64) v2.1.In)⟩), (7, some ⟨3, (fl (eI .i64) v2.1.Out)⟩)]) 8 (fun s12 => F_laws_FnHostView_j12 s11 s12 = some u11) ?_ ?_
     · intro s12 hh
       unfold F_laws_FnHostView_j12 at hh
       exact Aw.oreg (ye (sp 86 [z7, z11, z9, z41, (10, ii (w64 (s11 + (1 : Int)))), (49, ii s11), (50, ii (w64 (s11 + (1 : Int))))]) [z42, z22, z20, z43, z34, z32, z30, z28] 8 (hN11 (w64 (s11 + (1 : Int))) _ _ _ (some_some hh) (el [some 0, some 1, some 2, some 3, some 4, some 5, some 6, some 7] (rens_sp kr (rp 0 (ri (rp 3 (ri (ri rl_n)))))) (hq q16 rz (hn nr_eI (hn nr_O_53 (hq q17 rz (hn nr_eI (hn nr_eI (hn nr_eI (hn nr_eI hs_nil)))))))))))
     intro Q12 hN12 hR12 hE12
     refine Aw.block (Aw.sreg [3, 4, 5, 9, 10, 72] [0, 1, 2, 3, 4, 5, 6, 7] ?_)
     obtain ⟨hg650, hh⟩ := grd_some hh
     refine yjc 5 [(0 : Int) ≤ v1.2 ∧ v1.2 < (((List.length v1.1.Guests) : Nat) : Int)] (sp 86 [z7, z11, z9, z41, z44, z45, (51, .ptr 0 [] 1), z12, (53, ii v1.2), z13, z14]) [z42, z22, z20, z43, z34, z32, z30, z28] 8 (.cons hg650 .nil) (ys (.load false 1 (.t 55)) (some 56) (op_load (c := O_53) (xs := v1.1.Guests) (e := 53) (r := 2) (π := []) (o := 0 + (Int.toNat v1.2) * 17 + 14) (i := (Int.toNat v1.2)) (off := 14) (v := .sref 2 [0 + (Int.toNat v1.2) * 17 + 14 + 0] 0 (List.length (z2.Pages)) 3) len_O_53 kr kr ltn ltn dd kr ?_))
     obtain ⟨hg649, hh⟩ := grd_some hh
     refine yjc 3 [(0 : Int) ≤ s9 ∧ s9 < (((List.length (z2.Pages)) : Nat) : Int)] (sp 86 [z7, z11, z9, z41, z44, z45, (51, .ptr 0 [] 1), z12, (53, ii v1.2), z13, z14, z18, (57, ii s9), z39, z40]) [z42, z22, z20, z43, z34, z32, z30, z28] 8 (.cons hg649 .nil) (ys (.load false 1 (.t 59)) (some 60) (op_load (c := C_50) (xs := z2.Pages) (e := 50) (r := 2) (π := [0 + (Int.toNat v1.2) * 17 + 14 + 0]) (o := 0 + (Int.toNat s9) * 3 + 0) (i := (Int.toNat s9)) (off := 0) (v := ii (z4.Frame)) len_C_50 kr (get_fl (e := 53) (e' := 50) (sz' := 3) (m' := (List.length (z2.Pages))) (cs' := (fl C_50 (z2.Pages))) (c := O_53) (xs := v1.1.Guests) (i := (Int.toNat v1.2)) (off := 14) len_O_53 kr ltn ltn dd rfl kr) ltn ltn dd kr ?_))
     refine yu 2 [(60, ii (z4.Frame)), (61, bb (decide ((z4.Frame) < (0 : Int)))), (62, bb (decide ((z4.Frame) < (0 : Int))))] [z42, z22, z20, z43, z34, z32, z30, z28] 8 ?_
     rcases cond_some hh with ⟨hb, hh⟩ | ⟨hb, hh⟩
     · refine yb 61 hb (yb 62 hb ?_)
       obtain ⟨hg648, hh⟩ := grd_some hh
       refine yjc 7 [(0 : Int) ≤ (w64 ((w64 (s9 * (8 : Int))) + s11)) ∧ (w64 ((w64 (s9 * (8 : Int))) + s11)) < (((List.length v2.1.Mem) : Nat) : Int)] (sp 86 [z7, z11, z9, z41, z44, z45, (51, .ptr 0 [] 1), z12, (53, ii v1.2), z13, z14, z18, (57, ii s9), z39, z40, (60, ii (z4.Frame)), (61, bb true), (62, bb true), (63, .ptr 3 [] 13), (64, sw 5 v2.1.Mem), (65, ii s9), (66, ii (w64 (s9 * (8 : Int)))), (67, ii s11), (68, ii (w64 ((w64 (s9 * (8 : Int))) + s11))), (69, .ptr 5 [] (0 + (Int.toNat (w64 ((w64 (s9 * (8 : Int))) + s11))) * 1))]) [z42, z22, z20, z43, z34, z32, z30, z28] 8 (.cons hg648 .nil) (yg (.load false 1 (.t 69)) (some 70) 62 true (op_load (c := (eI .i64)) (xs := v2.1.Mem) (e := 3) (r := 5) (π := []) (o := 0 + (Int.toNat (w64 ((w64 (s9 * (8 : Int))) + s11))) * 1) (i := (Int.toNat (w64 ((w64 (s9 * (8 : Int))) + s11)))) (off := 0) (v := ii z3) len_eI kr kr ltn ltn dd kr ?_))
       refine yt (sp 86 [z7, z11, z9, z41, z44, (72, bb (!decide (z3 = (0 : Int))))]) [z42, z22, z20, z43, z34, z32, z30, z28] 8 ?_
       rcases cond_some hh with ⟨hb, hh⟩ | ⟨hb, hh⟩
       · refine cT hb (sy [2] [] (sp 86 [(2, bb false)]) [] 8 (Aw.ret (blk_r ?_)))
         obtain rfl := some_some hh
         refine hR12 _ _ _ ((hR11 _ _ _ _ (some_some hk12) ?_))
         intro hout
         rw [hout] at hk11
         refine blk_r (blk_r ?_)
         obtain rfl := some_some hk11
         refine hR10 _ _ _ ((hR9 _ _ _ _ (some_some hk10) ?_))
         intro hout
         rw [hout] at hk9
         refine blk_r ?_
         obtain rfl := some_some hk9
         refine hR6 _ _ _ ?_
         rw [some_some hk6]
         exact gvb
       refine cF hb (Aw.skip (blk_m ?_))
       obtain rfl := some_some hh
       exact hN12 () _ _ _ hk12 (el [some 0, some 1, some 2, some 3, some 4, some 5, some 6, some 7] (rens_sp kr (rp 0 (ri (rp 3 (ri (ri rl_n)))))) (hq q16 rz (hn nr_eI (hn nr_O_53 (hq q17 rz (hn nr_eI (hn nr_eI (hn nr_eI (hn nr_eI hs_nil)))))))))
     refine yb 61 hb (yb 62 hb (yt (sp 86 [z7, z11, z9, z41, z44, (72, bb false)]) [z42, z22, z20, z43, z34, z32, z30, z28] 8 (cF rfl (Aw.skip (blk_m ?_)))))
     obtain rfl := some_some hh
     exact hN12 () _ _ _ hk12 (el [some 0, some 1, some 2, some 3, some 4, some 5, some 6, some 7] (rens_sp kr (rp 0 (ri (rp 3 (ri (ri rl_n)))))) (hq q16 rz (hn nr_eI (hn nr_O_53 (hq q17 rz (hn nr_eI (hn nr_eI (hn nr_eI (hn nr_eI hs_nil)))))))))
   refine cF hb (Aw.exit (then_x (hX11 _ _ _ _ _ (some_some hh) ?_)))
   intro hout
   rw [hout] at hk11
   refine blk_x (blk_m ?_)
   obtain rfl := some_some hk11
   exact hN10 () _ _ _ hk10 (el [some 0, some 1, some 2, some 3, some 4, some 5, some 6, some 7] (rens_sp kr (rp 0 (ri (rp 3 (ri rl_n))))) (hq q16 rz (hn nr_eI (hn nr_O_53 (hq q17 rz (hn nr_eI (hn nr_eI (hn nr_eI (hn nr_eI hs_nil)))))))))
 refine cF hb (Aw.exit (then_x (hX9 _ _ _ _ _ (some_some hh) ?_)))
 intro hout
 rw [hout] at hk9
 refine blk_x ?_
 obtain rfl := some_some hk9
 exact hN6 () _ _ _ hk6 (el [some 0, some 1, some 2, some 3, some 4, some 5, some 6, some 7] (rens_sp kr (rp 0 (ri (rp 3 rl_n)))) (hq q16 rz (hn nr_eI (hn nr_O_53 (hq q17 rz (hn nr_eI (hn nr_eI (hn nr_eI (hn nr_eI hs_nil)))))))))
end Go.Proofs.Ytlikfpmbcdlnjaa
