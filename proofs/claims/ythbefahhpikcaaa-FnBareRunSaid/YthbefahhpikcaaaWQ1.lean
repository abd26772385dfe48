/- Plain functions of the program, and that it hands back what they say. Made by program. -/
import Derived.Test.YthbefahhpikcaaaWT
import Derived.Test.YthbefahhpikcaaaProg
import Derived.Test.YthbefahhpikcaaaWN1
import Derived.Test.YthbefahhpikcaaaWO1
import Derived.Test.YthbefahhpikcaaaWP1
import Derived.Test.YthbefahhpikcaaaWP2
namespace Go.Proofs.Ythbefahhpikcaaa
open Go.RowKit
set_option maxRecDepth 100000
set_option linter.all false
set_option maxHeartbeats 0
def Lf41_r0 : List LOper := [oo 2 (.box 43 (.t 0)), oo 4 (.fresh 43 [.nil, (ii 0), (ii 0), (ii 0), (ii 0), (bb false), (ii 0), (ii 0), (ii 0), (bb false), (bb false), (bb false), (bb false), .nil, .nil, .nil])]
def Lf41_r1 : List LOper := [oo 6 (.load true 16 (.t 2)), oo 7 (.call 33 [(.t 6)]), oo 8 (.un .not (.t 7)), om 9 8, ⟨(some 10), (.mv (.t 1)), (some (9, false))⟩, ⟨(some 11), (.bin .lss (.t 10) (.c (ii 0))), (some (9, false))⟩, oo 12 (.pick (.t 9) (.c (bb true)) (.t 11)), om 13 12, ⟨(some 14), (.mv (.t 1)), (some (13, false))⟩, ⟨(some 15), (.bin .gtr (.t 14) (.c (ii 300))), (some (13, false))⟩, oo 16 (.pick (.t 13) (.c (bb true)) (.t 15))]
def Lf41_r2 : List LOper := [oo 17 (.bld [.nil, (ii 0), (ii 0), (ii 0), (ii 0), (bb false), (ii 0), (ii 0), (ii 0), (bb false), (bb false), (bb false), (bb false), .nil, .nil, .nil] []), ⟨none, (.store 16 (.t 4) (.t 17)), none⟩]
def Lf41_r3 : List LOper := [oo 5 (.mv (.c (ii 0)))]
def Lf41_r4 : List LOper := [om 18 5, om 19 1, oo 20 (.bin .lss (.t 18) (.t 19))]
def Lf41_r5 : List LOper := [oo 23 (.load true 16 (.t 2)), oo 24 (.call 69 [(.t 23)]), ⟨none, (.store 16 (.t 2) (.t 24)), none⟩]
def Lf41_r6 : List LOper := [om 21 5, oo 22 (.bin .add (.t 21) (.c (ii 1))), om 5 22]
def Lf41_l7 : LCode := (.seq (.seq (.reg false Lf41_r4) (.cond (.t 20) .skip (.exit 0))) (.seq (.block 1 (.reg false Lf41_r5)) (.reg false Lf41_r6)))
def Lf41_r8 : List LOper := [oo 25 (.load true 16 (.t 2)), oo 26 (.call 68 [(.t 25)]), ⟨none, (.store 16 (.t 4) (.t 26)), none⟩]
def Lf41 : LFun := ⟨27, [(.cell 4 true 16)], (.seq (.reg false Lf41_r0) (.seq (.seq (.reg false Lf41_r1) (.cond (.t 16) (.seq (.reg false Lf41_r2) .ret) .skip)) (.seq (.seq (.reg false Lf41_r3) (.block 0 (.loop Lf41_l7))) (.seq (.reg false Lf41_r8) .ret))))⟩
theorem low_impl_BareRun : lowFun Go.Proofs.Try.prog 41 = some Lf41 := by kernel_rfl
noncomputable def F_impl_BareRun_j2  (s2 : (List Int) × Int × Int × Int × Int × Bool × Int × Int × Int × Bool × Bool × Bool × Bool × (List Int) × (List Int) × (List Int)) : Option DBare :=
 Option.bind (F_impl_copiedBare (DBare.mk (DCore.mk s2.1 s2.2.1 s2.2.2.1 s2.2.2.2.1 s2.2.2.2.2.1 s2.2.2.2.2.2.1 s2.2.2.2.2.2.2.1 s2.2.2.2.2.2.2.2.1 s2.2.2.2.2.2.2.2.2.1 s2.2.2.2.2.2.2.2.2.2.1 s2.2.2.2.2.2.2.2.2.2.2.1 s2.2.2.2.2.2.2.2.2.2.2.2.1 s2.2.2.2.2.2.2.2.2.2.2.2.2.1) s2.2.2.2.2.2.2.2.2.2.2.2.2.2.1 s2.2.2.2.2.2.2.2.2.2.2.2.2.2.2.1 s2.2.2.2.2.2.2.2.2.2.2.2.2.2.2.2)) fun v3 =>
 some v3
noncomputable def F_impl_BareRun_l4 (x_steps : Int) (s4 : (List Int) × Int × Int × Int × Int × Bool × Int × Int × Int × Bool × Bool × Bool × Bool × (List Int) × (List Int) × (List Int) × Int) : Option (LO ((List Int) × Int × Int × Int × Int × Bool × Int × Int × Int × Bool × Bool × Bool × Bool × (List Int) × (List Int) × (List Int) × Int) (JO ((List Int) × Int × Int × Int × Int × Bool × Int × Int × Int × Bool × Bool × Bool × Bool × (List Int) × (List Int) × (List Int)) DBare)) :=
 cond (decide (s4.2.2.2.2.2.2.2.2.2.2.2.2.2.2.2.2 < x_steps))
  (Option.bind (F_impl_stepped (DBare.mk (DCore.mk s4.1 s4.2.1 s4.2.2.1 s4.2.2.2.1 s4.2.2.2.2.1 s4.2.2.2.2.2.1 s4.2.2.2.2.2.2.1 s4.2.2.2.2.2.2.2.1 s4.2.2.2.2.2.2.2.2.1 s4.2.2.2.2.2.2.2.2.2.1 s4.2.2.2.2.2.2.2.2.2.2.1 s4.2.2.2.2.2.2.2.2.2.2.2.1 s4.2.2.2.2.2.2.2.2.2.2.2.2.1) s4.2.2.2.2.2.2.2.2.2.2.2.2.2.1 s4.2.2.2.2.2.2.2.2.2.2.2.2.2.2.1 s4.2.2.2.2.2.2.2.2.2.2.2.2.2.2.2.1)) fun v5 =>
  some (.next (v5.C.Regs, v5.C.Pc, v5.C.Root, v5.C.Vector, v5.C.Saved, v5.C.SavedUser, v5.C.Cause, v5.C.Bad, v5.C.Timer, v5.C.Waits, v5.C.User, v5.C.On, v5.C.Stopped, v5.Mem, v5.In, v5.Out, (w64 (s4.2.2.2.2.2.2.2.2.2.2.2.2.2.2.2.2 + (1 : Int))))))
  (some (.ret (.go (s4.1, s4.2.1, s4.2.2.1, s4.2.2.2.1, s4.2.2.2.2.1, s4.2.2.2.2.2.1, s4.2.2.2.2.2.2.1, s4.2.2.2.2.2.2.2.1, s4.2.2.2.2.2.2.2.2.1, s4.2.2.2.2.2.2.2.2.2.1, s4.2.2.2.2.2.2.2.2.2.2.1, s4.2.2.2.2.2.2.2.2.2.2.2.1, s4.2.2.2.2.2.2.2.2.2.2.2.2.1, s4.2.2.2.2.2.2.2.2.2.2.2.2.2.1, s4.2.2.2.2.2.2.2.2.2.2.2.2.2.2.1, s4.2.2.2.2.2.2.2.2.2.2.2.2.2.2.2.1))))
noncomputable def F_impl_BareRun (x_b : DBare) (x_steps : Int) : Option DBare :=
 Option.bind (F_impl_BareOk x_b) fun v1 =>
 cond (!v1)
  (some (DBare.mk (DCore.mk ([] : List Int) (0 : Int) (0 : Int) (0 : Int) (0 : Int) false (0 : Int) (0 : Int) (0 : Int) false false false false) ([] : List Int) ([] : List Int) ([] : List Int)))
  (cond (decide (x_steps < (0 : Int)))
   (some (DBare.mk (DCore.mk ([] : List Int) (0 : Int) (0 : Int) (0 : Int) (0 : Int) false (0 : Int) (0 : Int) (0 : Int) false false false false) ([] : List Int) ([] : List Int) ([] : List Int)))
   (cond (decide ((300 : Int) < x_steps))
    (some (DBare.mk (DCore.mk ([] : List Int) (0 : Int) (0 : Int) (0 : Int) (0 : Int) false (0 : Int) (0 : Int) (0 : Int) false false false false) ([] : List Int) ([] : List Int) ([] : List Int)))
    (Option.bind (Option.bind (iter (F_impl_BareRun_l4 x_steps) (x_b.C.Regs, x_b.C.Pc, x_b.C.Root, x_b.C.Vector, x_b.C.Saved, x_b.C.SavedUser, x_b.C.Cause, x_b.C.Bad, x_b.C.Timer, x_b.C.Waits, x_b.C.User, x_b.C.On, x_b.C.Stopped, x_b.Mem, x_b.In, x_b.Out, (0 : Int))) LO.val) fun j2 =>
     JO.run j2 (F_impl_BareRun_j2))))
theorem impl_BareRun_fn {x_b : DBare} {x_steps : Int} {R_ : DBare} (hh : F_impl_BareRun x_b x_steps = some R_) : Fn Try.prog 41 [.agg (B_43 x_b), .int .i64 x_steps] (.agg (.own 3 1 (List.length R_.C.Regs) (fl (eI .i64) R_.C.Regs) :: ru39 R_.C [.own 3 1 (List.length R_.Mem) (fl (eI .i64) R_.Mem), .own 3 1 (List.length R_.In) (fl (eI .i64) R_.In), .own 3 1 (List.length R_.Out) (fl (eI .i64) R_.Out)])) := by
 unfold F_impl_BareRun at hh
 refine Fn.start low_impl_BareRun [0, 1] (E := sp 27 [(0, .agg (B_43 x_b)), (1, ii x_steps)]) (by kernel_rfl) (v := .agg (sw 0 R_.C.Regs :: ru39 R_.C [sw 1 R_.Mem, sw 2 R_.In, sw 3 R_.Out])) (Hr := [(3, some ⟨3, (fl (eI .i64) R_.Out)⟩), (2, some ⟨3, (fl (eI .i64) R_.In)⟩), (1, some ⟨3, (fl (eI .i64) R_.Mem)⟩), (0, some ⟨3, (fl (eI .i64) R_.C.Regs)⟩)]) (k := 4) (by kernel_rfl) ?_
 refine Aw.sreg [1, 2, 4] [0, 1] ?_
 let q1 : Root := ⟨43, (.nil :: zru39 [.nil, .nil, .nil])⟩
 refine yt (sp 27 [(1, ii x_steps), (2, pp 0), (4, pp 1)]) [(0, some ⟨43, (B_43 x_b)⟩), (1, some q1)] 2 ?_
 refine Aw.seq ?_
 refine Aw.sreg [1, 2, 4, 16] [0, 1] (yj 1  (sp 27 [(1, ii x_steps), (2, pp 0), (4, pp 1), (6, .agg (B_43 x_b))]) [(0, some ⟨43, (B_43 x_b)⟩), (1, some q1)] 2 ?_)
 obtain ⟨v1, hv1, hh⟩ := bind_some hh
 refine ys (.call 33 [(.t 6)]) (some 7) (op_call (r := bb v1) (v := bb v1) (Hr := []) (n' := 2) (impl_BareOk_fn hv1) (clz_v (vs := [.agg (B_43 x_b)]) (by kernel_rfl) (clz_c (clo_same (clean_agg (cl_B_43 _))) clz_n)) rfl rfl (by kernel_rfl) ?_)
 refine yu 2 [(7, bb v1), (8, bb (!v1)), (9, bb (!v1))] [(0, some ⟨43, (B_43 x_b)⟩), (1, some q1)] 2 ?_
 rcases cond_some hh with ⟨hb, hh⟩ | ⟨hb, hh⟩
 · refine yb 8 hb ?_
   refine yb 9 hb ?_
   refine yt (sp 27 [(1, ii x_steps), (2, pp 0), (4, pp 1), (16, bb true)]) [(0, some ⟨43, (B_43 x_b)⟩), (1, some q1)] 2 ?_
   refine cT rfl ?_
   refine sy [4] [1] (sp 27 [(4, pp 1)]) [(1, some q1)] 2 ?_
   refine Aw.ret ?_
   refine then_r ?_
   rw [some_some hh]
   exact gives (r' := .agg (.nil :: zru39 [.nil, .nil, .nil])) (by kernel_rfl) (Ent.list [none, none, none, none] rfl rfl (Nat.zero_le _) (rens_1 (ren_agg (rens_c (ren_s0 (by decide) rfl rfl) (rens_i (rens_i (rens_i (rens_i (rens_b (rens_i (rens_i (rens_i (rens_b (rens_b (rens_b (rens_b (rens_c (ren_s0 (by decide) rfl rfl) (rens_c (ren_s0 (by decide) rfl rfl) (rens_c (ren_s0 (by decide) rfl rfl) rens_n)))))))))))))))))) (hs_no (by decide) rfl rfl (hs_no (by decide) rfl rfl (hs_no (by decide) rfl rfl (hs_no (by decide) rfl rfl hs_nil)))))
 refine yb 8 hb ?_
 refine yb 9 hb ?_
 refine yu 4 [(8, bb false), (9, bb false), (10, ii x_steps), (11, bb (decide (x_steps < (0 : Int)))), (12, bb (decide (x_steps < (0 : Int)))), (13, bb (decide (x_steps < (0 : Int))))] [(0, some ⟨43, (B_43 x_b)⟩), (1, some q1)] 2 ?_
 rcases cond_some hh with ⟨hb, hh⟩ | ⟨hb, hh⟩
 · refine yb 11 hb ?_
   refine yb 12 hb ?_
   refine yb 13 hb ?_
   refine yt (sp 27 [(1, ii x_steps), (2, pp 0), (4, pp 1), (16, bb true)]) [(0, some ⟨43, (B_43 x_b)⟩), (1, some q1)] 2 ?_
   refine cT rfl ?_
   refine sy [4] [1] (sp 27 [(4, pp 1)]) [(1, some q1)] 2 ?_
   refine Aw.ret ?_
   refine then_r ?_
   rw [some_some hh]
   exact gives (r' := .agg (.nil :: zru39 [.nil, .nil, .nil])) (by kernel_rfl) (Ent.list [none, none, none, none] rfl rfl (Nat.zero_le _) (rens_1 (ren_agg (rens_c (ren_s0 (by decide) rfl rfl) (rens_i (rens_i (rens_i (rens_i (rens_b (rens_i (rens_i (rens_i (rens_b (rens_b (rens_b (rens_b (rens_c (ren_s0 (by decide) rfl rfl) (rens_c (ren_s0 (by decide) rfl rfl) (rens_c (ren_s0 (by decide) rfl rfl) rens_n)))))))))))))))))) (hs_no (by decide) rfl rfl (hs_no (by decide) rfl rfl (hs_no (by decide) rfl rfl (hs_no (by decide) rfl rfl hs_nil)))))
 refine yb 11 hb ?_
 refine yb 12 hb ?_
 refine yb 13 hb ?_
 refine yt (sp 27 [(1, ii x_steps), (2, pp 0), (4, pp 1), (16, bb (decide ((300 : Int) < x_steps)))]) [(0, some ⟨43, (B_43 x_b)⟩), (1, some q1)] 2 ?_
 rcases cond_some hh with ⟨hb, hh⟩ | ⟨hb, hh⟩
 · refine cT hb ?_
   refine sy [4] [1] (sp 27 [(4, pp 1)]) [(1, some q1)] 2 ?_
   refine Aw.ret ?_
   refine then_r ?_
   rw [some_some hh]
   exact gives (r' := .agg (.nil :: zru39 [.nil, .nil, .nil])) (by kernel_rfl) (Ent.list [none, none, none, none] rfl rfl (Nat.zero_le _) (rens_1 (ren_agg (rens_c (ren_s0 (by decide) rfl rfl) (rens_i (rens_i (rens_i (rens_i (rens_b (rens_i (rens_i (rens_i (rens_b (rens_b (rens_b (rens_b (rens_c (ren_s0 (by decide) rfl rfl) (rens_c (ren_s0 (by decide) rfl rfl) (rens_c (ren_s0 (by decide) rfl rfl) rens_n)))))))))))))))))) (hs_no (by decide) rfl rfl (hs_no (by decide) rfl rfl (hs_no (by decide) rfl rfl (hs_no (by decide) rfl rfl hs_nil)))))
 refine cF hb ?_
 refine Aw.xskip (fun _ _ _ hq => then_m hq) ?_
 obtain ⟨j2, hh, hk2⟩ := bind_some hh
 refine Aw.join (S := (List Int) × Int × Int × Int × Int × Bool × Int × Int × Int × Bool × Bool × Bool × Bool × (List Int) × (List Int) × (List Int)) (fun s2 => sp 27 [(2, pp 0), (4, pp 1)]) (fun s2 => [(0, some ⟨43, [bo (eI .i64) s2.1, ii s2.2.1, ii s2.2.2.1, ii s2.2.2.2.1, ii s2.2.2.2.2.1, bb s2.2.2.2.2.2.1, ii s2.2.2.2.2.2.2.1, ii s2.2.2.2.2.2.2.2.1, ii s2.2.2.2.2.2.2.2.2.1, bb s2.2.2.2.2.2.2.2.2.2.1, bb s2.2.2.2.2.2.2.2.2.2.2.1, bb s2.2.2.2.2.2.2.2.2.2.2.2.1, bb s2.2.2.2.2.2.2.2.2.2.2.2.2.1, bo (eI .i64) s2.2.2.2.2.2.2.2.2.2.2.2.2.2.1, bo (eI .i64) s2.2.2.2.2.2.2.2.2.2.2.2.2.2.2.1, bo (eI .i64) s2.2.2.2.2.2.2.2.2.2.2.2.2.2.2.2]⟩), (1, some ⟨43, (.nil :: zru39 [.nil, .nil, .nil])⟩)]) 2 (fun s2 => F_impl_BareRun_j2 s2 = some R_) ?_ ?_
 · intro s2 hh
   unfold F_impl_BareRun_j2 at hh
   refine Aw.sreg [4] [1, 2, 3, 4, 5] (yj 1  (sp 27 [(2, pp 0), (4, pp 1), (25, .agg [bo (eI .i64) s2.1, ii s2.2.1, ii s2.2.2.1, ii s2.2.2.2.1, ii s2.2.2.2.2.1, bb s2.2.2.2.2.2.1, ii s2.2.2.2.2.2.2.1, ii s2.2.2.2.2.2.2.2.1, ii s2.2.2.2.2.2.2.2.2.1, bb s2.2.2.2.2.2.2.2.2.2.1, bb s2.2.2.2.2.2.2.2.2.2.2.1, bb s2.2.2.2.2.2.2.2.2.2.2.2.1, bb s2.2.2.2.2.2.2.2.2.2.2.2.2.1, bo (eI .i64) s2.2.2.2.2.2.2.2.2.2.2.2.2.2.1, bo (eI .i64) s2.2.2.2.2.2.2.2.2.2.2.2.2.2.2.1, bo (eI .i64) s2.2.2.2.2.2.2.2.2.2.2.2.2.2.2.2])]) [(0, some ⟨43, [bo (eI .i64) s2.1, ii s2.2.1, ii s2.2.2.1, ii s2.2.2.2.1, ii s2.2.2.2.2.1, bb s2.2.2.2.2.2.1, ii s2.2.2.2.2.2.2.1, ii s2.2.2.2.2.2.2.2.1, ii s2.2.2.2.2.2.2.2.2.1, bb s2.2.2.2.2.2.2.2.2.2.1, bb s2.2.2.2.2.2.2.2.2.2.2.1, bb s2.2.2.2.2.2.2.2.2.2.2.2.1, bb s2.2.2.2.2.2.2.2.2.2.2.2.2.1, bo (eI .i64) s2.2.2.2.2.2.2.2.2.2.2.2.2.2.1, bo (eI .i64) s2.2.2.2.2.2.2.2.2.2.2.2.2.2.2.1, bo (eI .i64) s2.2.2.2.2.2.2.2.2.2.2.2.2.2.2.2]⟩), (1, some q1)] 2 ?_)
   obtain ⟨v3, hv3, hh⟩ := bind_some hh
   let q2 : Root := ⟨3, (fl (eI .i64) v3.Out)⟩
   let q3 : Root := ⟨3, (fl (eI .i64) v3.In)⟩
   let q4 : Root := ⟨3, (fl (eI .i64) v3.Mem)⟩
   let q5 : Root := ⟨3, (fl (eI .i64) v3.C.Regs)⟩
   refine ys (.call 68 [(.t 25)]) (some 26) (op_call (r := .agg (.own 3 1 (List.length v3.C.Regs) (fl (eI .i64) v3.C.Regs) :: ru39 v3.C [.own 3 1 (List.length v3.Mem) (fl (eI .i64) v3.Mem), .own 3 1 (List.length v3.In) (fl (eI .i64) v3.In), .own 3 1 (List.length v3.Out) (fl (eI .i64) v3.Out)])) (v := .agg (sw 2 v3.C.Regs :: ru39 v3.C [sw 3 v3.Mem, sw 4 v3.In, sw 5 v3.Out])) (Hr := [(5, some q2), (4, some q3), (3, some q4), (2, some q5)]) (n' := 6) (impl_copiedBare_fn hv3) (clz_v (vs := [.agg [bo (eI .i64) s2.1, ii s2.2.1, ii s2.2.2.1, ii s2.2.2.2.1, ii s2.2.2.2.2.1, bb s2.2.2.2.2.2.1, ii s2.2.2.2.2.2.2.1, ii s2.2.2.2.2.2.2.2.1, ii s2.2.2.2.2.2.2.2.2.1, bb s2.2.2.2.2.2.2.2.2.2.1, bb s2.2.2.2.2.2.2.2.2.2.2.1, bb s2.2.2.2.2.2.2.2.2.2.2.2.1, bb s2.2.2.2.2.2.2.2.2.2.2.2.2.1, bo (eI .i64) s2.2.2.2.2.2.2.2.2.2.2.2.2.2.1, bo (eI .i64) s2.2.2.2.2.2.2.2.2.2.2.2.2.2.2.1, bo (eI .i64) s2.2.2.2.2.2.2.2.2.2.2.2.2.2.2.2]]) (by kernel_rfl) (clz_c (clo_agg (clos_c (clo_same (clean_bor (cleans_fl cl_eI))) (cs1 (cs1 (cs1 (cs1 (cs1 (cs1 (cs1 (cs1 (cs1 (cs1 (cs1 (cs1 (clos_c (clo_same (clean_bor (cleans_fl cl_eI))) (clos_c (clo_same (clean_bor (cleans_fl cl_eI))) (clos_c (clo_same (clean_bor (cleans_fl cl_eI))) clos_n))))))))))))))))) clz_n)) (by simp only [ru39, AV.noRef, noRefs, Bool.and_self, noRefs_fl nr_eI]) (by simp only [ru39, AV.noBor, noBors, Bool.and_self, noBors_fl nb_eI]) (by kernel_rfl) ?_)
   refine yt (sp 27 [(4, pp 1)]) [(1, some ⟨43, (sw 2 v3.C.Regs :: ru39 v3.C [sw 3 v3.Mem, sw 4 v3.In, sw 5 v3.Out])⟩), (2, some q5), (3, some q4), (4, some q3), (5, some q2)] 6 ?_
   refine Aw.ret ?_
   rw [some_some hh]
   exact gives (r' := .agg (sw 2 v3.C.Regs :: ru39 v3.C [sw 3 v3.Mem, sw 4 v3.In, sw 5 v3.Out])) (by kernel_rfl) (Ent.list [some 2, some 3, some 4, some 5] rfl rfl (Nat.zero_le _) (rens_1 (ren_agg (rens_c ren_sx (rens_i (rens_i (rens_i (rens_i (rens_b (rens_i (rens_i (rens_i (rens_b (rens_b (rens_b (rens_b (rens_c ren_sx (rens_c ren_sx (rens_c ren_sx rens_n)))))))))))))))))) (hq q2 (rens_same (noRefs_fl nr_eI)) (hq q3 (rens_same (noRefs_fl nr_eI)) (hq q4 (rens_same (noRefs_fl nr_eI)) (hq q5 (rens_same (noRefs_fl nr_eI)) hs_nil)))))
 intro Q2 hN2 hR2 hE2
 refine sy [1, 2, 4, 5] [0, 1] (sp 27 [(1, ii x_steps), (2, pp 0), (4, pp 1), (5, ii 0)]) [(0, some ⟨43, (B_43 x_b)⟩), (1, some q1)] 2 ?_
 refine Aw.block ?_
 obtain ⟨o4, hi4, hk4⟩ := bind_some hh
 refine Aw.iter (fun (s4 : (List Int) × Int × Int × Int × Int × Bool × Int × Int × Int × Bool × Bool × Bool × Bool × (List Int) × (List Int) × (List Int) × Int) => sp 27 [(1, ii x_steps), (2, pp 0), (4, pp 1), (5, ii s4.2.2.2.2.2.2.2.2.2.2.2.2.2.2.2.2)]) (fun (s4 : (List Int) × Int × Int × Int × Int × Bool × Int × Int × Int × Bool × Bool × Bool × Bool × (List Int) × (List Int) × (List Int) × Int) => [(0, some ⟨43, [bo (eI .i64) s4.1, ii s4.2.1, ii s4.2.2.1, ii s4.2.2.2.1, ii s4.2.2.2.2.1, bb s4.2.2.2.2.2.1, ii s4.2.2.2.2.2.2.1, ii s4.2.2.2.2.2.2.2.1, ii s4.2.2.2.2.2.2.2.2.1, bb s4.2.2.2.2.2.2.2.2.2.1, bb s4.2.2.2.2.2.2.2.2.2.2.1, bb s4.2.2.2.2.2.2.2.2.2.2.2.1, bb s4.2.2.2.2.2.2.2.2.2.2.2.2.1, bo (eI .i64) s4.2.2.2.2.2.2.2.2.2.2.2.2.2.1, bo (eI .i64) s4.2.2.2.2.2.2.2.2.2.2.2.2.2.2.1, bo (eI .i64) s4.2.2.2.2.2.2.2.2.2.2.2.2.2.2.2.1]⟩), (1, some ⟨43, (.nil :: zru39 [.nil, .nil, .nil])⟩)]) 2 hi4 (Ent.list2 [some 0, some 1] rfl rfl (by decide) (rens_sp (by kernel_rfl) (rl_c (u := ii x_steps) (by kernel_rfl) ren_i (rl_c (u := pp 0) (by kernel_rfl) (ren_p (by decide) rfl) (rl_c (u := pp 1) (by kernel_rfl) (ren_p (by decide) rfl) (rl_c (u := ii 0) (by kernel_rfl) ren_i rl_n))))) (hq ⟨43, (B_43 x_b)⟩ (rens_c (ren_bor (rens_same (noRefs_fl nr_eI))) (rens_i (rens_i (rens_i (rens_i (rens_b (rens_i (rens_i (rens_i (rens_b (rens_b (rens_b (rens_b (rens_c (ren_bor (rens_same (noRefs_fl nr_eI))) (rens_c (ren_bor (rens_same (noRefs_fl nr_eI))) (rens_c (ren_bor (rens_same (noRefs_fl nr_eI))) rens_n)))))))))))))))) (hq q1 (rens_c ren_nil (rens_i (rens_i (rens_i (rens_i (rens_b (rens_i (rens_i (rens_i (rens_b (rens_b (rens_b (rens_b (rens_c ren_nil (rens_c ren_nil (rens_c ren_nil rens_n)))))))))))))))) hs_nil))) ?_
 intro s4 u4 Q4 hh hN4 hX4 hR4
 unfold F_impl_BareRun_l4 at hh
 refine Aw.seq ?_
 refine Aw.sreg [1, 2, 4, 5, 20] [0, 1] ?_
 let q6 : Root := ⟨43, [bo (eI .i64) s4.1, ii s4.2.1, ii s4.2.2.1, ii s4.2.2.2.1, ii s4.2.2.2.2.1, bb s4.2.2.2.2.2.1, ii s4.2.2.2.2.2.2.1, ii s4.2.2.2.2.2.2.2.1, ii s4.2.2.2.2.2.2.2.2.1, bb s4.2.2.2.2.2.2.2.2.2.1, bb s4.2.2.2.2.2.2.2.2.2.2.1, bb s4.2.2.2.2.2.2.2.2.2.2.2.1, bb s4.2.2.2.2.2.2.2.2.2.2.2.2.1, bo (eI .i64) s4.2.2.2.2.2.2.2.2.2.2.2.2.2.1, bo (eI .i64) s4.2.2.2.2.2.2.2.2.2.2.2.2.2.2.1, bo (eI .i64) s4.2.2.2.2.2.2.2.2.2.2.2.2.2.2.2.1]⟩
 refine yt (sp 27 [(1, ii x_steps), (2, pp 0), (4, pp 1), (5, ii s4.2.2.2.2.2.2.2.2.2.2.2.2.2.2.2.2), (20, bb (decide (s4.2.2.2.2.2.2.2.2.2.2.2.2.2.2.2.2 < x_steps)))]) [(0, some q6), (1, some q1)] 2 ?_
 rcases cond_some hh with ⟨hb, hh⟩ | ⟨hb, hh⟩
 · refine cT hb ?_
   refine Aw.xskip (fun _ _ _ hq => then_m hq) ?_
   refine Aw.seq ?_
   refine Aw.block ?_
   refine Aw.xreg [1, 2, 4, 5] [0, 1] (fun _ _ _ hq => blk_m (then_m hq)) ?_
   refine yj 1  (sp 27 [(1, ii x_steps), (2, pp 0), (4, pp 1), (5, ii s4.2.2.2.2.2.2.2.2.2.2.2.2.2.2.2.2), (20, bb (decide (s4.2.2.2.2.2.2.2.2.2.2.2.2.2.2.2.2 < x_steps))), (23, .agg [bo (eI .i64) s4.1, ii s4.2.1, ii s4.2.2.1, ii s4.2.2.2.1, ii s4.2.2.2.2.1, bb s4.2.2.2.2.2.1, ii s4.2.2.2.2.2.2.1, ii s4.2.2.2.2.2.2.2.1, ii s4.2.2.2.2.2.2.2.2.1, bb s4.2.2.2.2.2.2.2.2.2.1, bb s4.2.2.2.2.2.2.2.2.2.2.1, bb s4.2.2.2.2.2.2.2.2.2.2.2.1, bb s4.2.2.2.2.2.2.2.2.2.2.2.2.1, bo (eI .i64) s4.2.2.2.2.2.2.2.2.2.2.2.2.2.1, bo (eI .i64) s4.2.2.2.2.2.2.2.2.2.2.2.2.2.2.1, bo (eI .i64) s4.2.2.2.2.2.2.2.2.2.2.2.2.2.2.2.1])]) [(0, some q6), (1, some q1)] 2 ?_
   obtain ⟨v5, hv5, hh⟩ := bind_some hh
   refine ys (.call 69 [(.t 23)]) (some 24) (op_callp (r := .agg (B_43 v5)) (v := .agg (B_43 v5)) (Hr := []) (n' := 2) (impl_stepped_fn hv5) (clz_v (vs := [.agg [bo (eI .i64) s4.1, ii s4.2.1, ii s4.2.2.1, ii s4.2.2.2.1, ii s4.2.2.2.2.1, bb s4.2.2.2.2.2.1, ii s4.2.2.2.2.2.2.1, ii s4.2.2.2.2.2.2.2.1, ii s4.2.2.2.2.2.2.2.2.1, bb s4.2.2.2.2.2.2.2.2.2.1, bb s4.2.2.2.2.2.2.2.2.2.2.1, bb s4.2.2.2.2.2.2.2.2.2.2.2.1, bb s4.2.2.2.2.2.2.2.2.2.2.2.2.1, bo (eI .i64) s4.2.2.2.2.2.2.2.2.2.2.2.2.2.1, bo (eI .i64) s4.2.2.2.2.2.2.2.2.2.2.2.2.2.2.1, bo (eI .i64) s4.2.2.2.2.2.2.2.2.2.2.2.2.2.2.2.1]]) (by kernel_rfl) (clz_c (clo_agg (clos_c (clo_same (clean_bor (cleans_fl cl_eI))) (cs1 (cs1 (cs1 (cs1 (cs1 (cs1 (cs1 (cs1 (cs1 (cs1 (cs1 (cs1 (clos_c (clo_same (clean_bor (cleans_fl cl_eI))) (clos_c (clo_same (clean_bor (cleans_fl cl_eI))) (clos_c (clo_same (clean_bor (cleans_fl cl_eI))) clos_n))))))))))))))))) clz_n)) (by simp only [AV.noRef, noRefs, Bool.and_self, noRefs_fl nr_eI, nr_B_43]) (by kernel_rfl) ?_)
   refine yt (sp 27 [(1, ii x_steps), (2, pp 0), (4, pp 1), (5, ii s4.2.2.2.2.2.2.2.2.2.2.2.2.2.2.2.2)]) [(0, some ⟨43, (B_43 v5)⟩), (1, some q1)] 2 ?_
   refine Aw.oreg ?_
   refine ye (sp 27 [(1, ii x_steps), (2, pp 0), (4, pp 1), (5, ii (w64 (s4.2.2.2.2.2.2.2.2.2.2.2.2.2.2.2.2 + (1 : Int)))), (21, ii s4.2.2.2.2.2.2.2.2.2.2.2.2.2.2.2.2), (22, ii (w64 (s4.2.2.2.2.2.2.2.2.2.2.2.2.2.2.2.2 + (1 : Int))))]) [(0, some ⟨43, (B_43 v5)⟩), (1, some q1)] 2 ?_
   exact hN4 (v5.C.Regs, v5.C.Pc, v5.C.Root, v5.C.Vector, v5.C.Saved, v5.C.SavedUser, v5.C.Cause, v5.C.Bad, v5.C.Timer, v5.C.Waits, v5.C.User, v5.C.On, v5.C.Stopped, v5.Mem, v5.In, v5.Out, (w64 (s4.2.2.2.2.2.2.2.2.2.2.2.2.2.2.2.2 + (1 : Int)))) _ _ _ (some_some hh) (Ent.list2 [some 0, some 1] rfl rfl (by decide) (rens_sp (by kernel_rfl) (rl_c (u := ii x_steps) (by kernel_rfl) ren_i (rl_c (u := pp 0) (by kernel_rfl) (ren_p (by decide) rfl) (rl_c (u := pp 1) (by kernel_rfl) (ren_p (by decide) rfl) (rl_c (u := ii (w64 (s4.2.2.2.2.2.2.2.2.2.2.2.2.2.2.2.2 + (1 : Int)))) (by kernel_rfl) ren_i rl_n))))) (hq ⟨43, (B_43 v5)⟩ (rens_c (ren_bor (rens_same (noRefs_fl nr_eI))) (rens_i (rens_i (rens_i (rens_i (rens_b (rens_i (rens_i (rens_i (rens_b (rens_b (rens_b (rens_b (rens_c (ren_bor (rens_same (noRefs_fl nr_eI))) (rens_c (ren_bor (rens_same (noRefs_fl nr_eI))) (rens_c (ren_bor (rens_same (noRefs_fl nr_eI))) rens_n)))))))))))))))) (hq q1 (rens_c ren_nil (rens_i (rens_i (rens_i (rens_i (rens_b (rens_i (rens_i (rens_i (rens_b (rens_b (rens_b (rens_b (rens_c ren_nil (rens_c ren_nil (rens_c ren_nil rens_n)))))))))))))))) hs_nil)))
 refine cF hb ?_
 refine Aw.exit ?_
 refine then_x ?_
 refine hX4 _ _ _ _ _ (some_some hh) ?_
 intro hout
 rw [hout] at hk4
 refine blk_x ?_
 obtain rfl := some_some hk4
 exact hN2 (s4.1, s4.2.1, s4.2.2.1, s4.2.2.2.1, s4.2.2.2.2.1, s4.2.2.2.2.2.1, s4.2.2.2.2.2.2.1, s4.2.2.2.2.2.2.2.1, s4.2.2.2.2.2.2.2.2.1, s4.2.2.2.2.2.2.2.2.2.1, s4.2.2.2.2.2.2.2.2.2.2.1, s4.2.2.2.2.2.2.2.2.2.2.2.1, s4.2.2.2.2.2.2.2.2.2.2.2.2.1, s4.2.2.2.2.2.2.2.2.2.2.2.2.2.1, s4.2.2.2.2.2.2.2.2.2.2.2.2.2.2.1, s4.2.2.2.2.2.2.2.2.2.2.2.2.2.2.2.1) _ _ _ hk2 (Ent.list2 [some 0, some 1] rfl rfl (by decide) (rens_sp (by kernel_rfl) (rl_c (u := pp 0) (by kernel_rfl) (ren_p (by decide) rfl) (rl_c (u := pp 1) (by kernel_rfl) (ren_p (by decide) rfl) rl_n))) (hq q6 (rens_c (ren_bor (rens_same (noRefs_fl nr_eI))) (rens_i (rens_i (rens_i (rens_i (rens_b (rens_i (rens_i (rens_i (rens_b (rens_b (rens_b (rens_b (rens_c (ren_bor (rens_same (noRefs_fl nr_eI))) (rens_c (ren_bor (rens_same (noRefs_fl nr_eI))) (rens_c (ren_bor (rens_same (noRefs_fl nr_eI))) rens_n)))))))))))))))) (hq q1 (rens_c ren_nil (rens_i (rens_i (rens_i (rens_i (rens_b (rens_i (rens_i (rens_i (rens_b (rens_b (rens_b (rens_b (rens_c ren_nil (rens_c ren_nil (rens_c ren_nil rens_n)))))))))))))))) hs_nil)))
def Lf42_r0 : List LOper := [oo 2 (.box 43 (.t 0)), oo 4 (.fresh 43 [.nil, (ii 0), (ii 0), (ii 0), (ii 0), (bb false), (ii 0), (ii 0), (ii 0), (bb false), (bb false), (bb false), (bb false), .nil, .nil, .nil])]
def Lf42_r1 : List LOper := [oo 7 (.load true 16 (.t 2)), oo 8 (.call 34 [(.t 7)]), oo 9 (.un .not (.t 8)), om 10 9, ⟨(some 11), (.mv (.t 1)), (some (10, false))⟩, ⟨(some 12), (.call 57 [(.t 11), (.c (ii 0)), (.c (ii 300))]), (some (10, false))⟩, ⟨(some 13), (.un .not (.t 12)), (some (10, false))⟩, oo 14 (.pick (.t 10) (.c (bb true)) (.t 13))]
def Lf42_r2 : List LOper := [oo 15 (.bld [.nil, (ii 0), (ii 0), (ii 0), (ii 0), (bb false), (ii 0), (ii 0), (ii 0), (bb false), (bb false), (bb false), (bb false), .nil, .nil, .nil] []), ⟨none, (.store 16 (.t 4) (.t 15)), none⟩]
def Lf42_r3 : List LOper := [oo 16 (.load true 16 (.t 2)), oo 17 (.call 71 [(.t 16)]), oo 5 (.fresh 43 [.nil, (ii 0), (ii 0), (ii 0), (ii 0), (bb false), (ii 0), (ii 0), (ii 0), (bb false), (bb false), (bb false), (bb false), .nil, .nil, .nil]), ⟨none, (.store 16 (.t 5) (.t 17)), none⟩]
def Lf42_r4 : List LOper := [oo 6 (.mv (.c (ii 0)))]
def Lf42_r5 : List LOper := [om 18 6, om 19 1, oo 20 (.bin .lss (.t 18) (.t 19))]
def Lf42_r6 : List LOper := [oo 23 (.load true 16 (.t 5)), oo 24 (.call 38 [(.t 23)]), ⟨none, (.store 16 (.t 5) (.t 24)), none⟩]
def Lf42_r7 : List LOper := [om 21 6, oo 22 (.bin .add (.t 21) (.c (ii 1))), om 6 22]
def Lf42_l8 : LCode := (.seq (.seq (.reg false Lf42_r5) (.cond (.t 20) .skip (.exit 0))) (.seq (.block 1 (.reg false Lf42_r6)) (.reg false Lf42_r7)))
def Lf42_r9 : List LOper := [oo 25 (.load true 16 (.t 5)), ⟨none, (.store 16 (.t 4) (.t 25)), none⟩]
def Lf42 : LFun := ⟨26, [(.cell 4 true 16)], (.seq (.reg false Lf42_r0) (.seq (.seq (.reg false Lf42_r1) (.cond (.t 14) (.seq (.reg false Lf42_r2) .ret) .skip)) (.seq (.reg false Lf42_r3) (.seq (.seq (.reg false Lf42_r4) (.block 0 (.loop Lf42_l8))) (.seq (.reg false Lf42_r9) .ret)))))⟩
theorem low_spec_BareRun : lowFun Go.Proofs.Try.prog 42 = some Lf42 := by kernel_rfl
noncomputable def F_spec_BareRun_j4  (s4 : (List Int) × Int × Int × Int × Int × Bool × Int × Int × Int × Bool × Bool × Bool × Bool × (List Int) × (List Int) × (List Int)) : Option DBare :=
 some (DBare.mk (DCore.mk s4.1 s4.2.1 s4.2.2.1 s4.2.2.2.1 s4.2.2.2.2.1 s4.2.2.2.2.2.1 s4.2.2.2.2.2.2.1 s4.2.2.2.2.2.2.2.1 s4.2.2.2.2.2.2.2.2.1 s4.2.2.2.2.2.2.2.2.2.1 s4.2.2.2.2.2.2.2.2.2.2.1 s4.2.2.2.2.2.2.2.2.2.2.2.1 s4.2.2.2.2.2.2.2.2.2.2.2.2.1) s4.2.2.2.2.2.2.2.2.2.2.2.2.2.1 s4.2.2.2.2.2.2.2.2.2.2.2.2.2.2.1 s4.2.2.2.2.2.2.2.2.2.2.2.2.2.2.2)
noncomputable def F_spec_BareRun_l5 (x_steps : Int) (s5 : (List Int) × Int × Int × Int × Int × Bool × Int × Int × Int × Bool × Bool × Bool × Bool × (List Int) × (List Int) × (List Int) × Int) : Option (LO ((List Int) × Int × Int × Int × Int × Bool × Int × Int × Int × Bool × Bool × Bool × Bool × (List Int) × (List Int) × (List Int) × Int) (JO ((List Int) × Int × Int × Int × Int × Bool × Int × Int × Int × Bool × Bool × Bool × Bool × (List Int) × (List Int) × (List Int)) DBare)) :=
 cond (decide (s5.2.2.2.2.2.2.2.2.2.2.2.2.2.2.2.2 < x_steps))
  (Option.bind (F_spec_BareStep (DBare.mk (DCore.mk s5.1 s5.2.1 s5.2.2.1 s5.2.2.2.1 s5.2.2.2.2.1 s5.2.2.2.2.2.1 s5.2.2.2.2.2.2.1 s5.2.2.2.2.2.2.2.1 s5.2.2.2.2.2.2.2.2.1 s5.2.2.2.2.2.2.2.2.2.1 s5.2.2.2.2.2.2.2.2.2.2.1 s5.2.2.2.2.2.2.2.2.2.2.2.1 s5.2.2.2.2.2.2.2.2.2.2.2.2.1) s5.2.2.2.2.2.2.2.2.2.2.2.2.2.1 s5.2.2.2.2.2.2.2.2.2.2.2.2.2.2.1 s5.2.2.2.2.2.2.2.2.2.2.2.2.2.2.2.1)) fun v6 =>
  some (.next (v6.C.Regs, v6.C.Pc, v6.C.Root, v6.C.Vector, v6.C.Saved, v6.C.SavedUser, v6.C.Cause, v6.C.Bad, v6.C.Timer, v6.C.Waits, v6.C.User, v6.C.On, v6.C.Stopped, v6.Mem, v6.In, v6.Out, (w64 (s5.2.2.2.2.2.2.2.2.2.2.2.2.2.2.2.2 + (1 : Int))))))
  (some (.ret (.go (s5.1, s5.2.1, s5.2.2.1, s5.2.2.2.1, s5.2.2.2.2.1, s5.2.2.2.2.2.1, s5.2.2.2.2.2.2.1, s5.2.2.2.2.2.2.2.1, s5.2.2.2.2.2.2.2.2.1, s5.2.2.2.2.2.2.2.2.2.1, s5.2.2.2.2.2.2.2.2.2.2.1, s5.2.2.2.2.2.2.2.2.2.2.2.1, s5.2.2.2.2.2.2.2.2.2.2.2.2.1, s5.2.2.2.2.2.2.2.2.2.2.2.2.2.1, s5.2.2.2.2.2.2.2.2.2.2.2.2.2.2.1, s5.2.2.2.2.2.2.2.2.2.2.2.2.2.2.2.1))))
noncomputable def F_spec_BareRun (x_b : DBare) (x_steps : Int) : Option DBare :=
 Option.bind (F_spec_BareOk x_b) fun v1 =>
 cond (!v1)
  (some (DBare.mk (DCore.mk ([] : List Int) (0 : Int) (0 : Int) (0 : Int) (0 : Int) false (0 : Int) (0 : Int) (0 : Int) false false false false) ([] : List Int) ([] : List Int) ([] : List Int)))
  (Option.bind (F_spec_l1In x_steps (0 : Int) (300 : Int)) fun v2 =>
  cond (!v2)
   (some (DBare.mk (DCore.mk ([] : List Int) (0 : Int) (0 : Int) (0 : Int) (0 : Int) false (0 : Int) (0 : Int) (0 : Int) false false false false) ([] : List Int) ([] : List Int) ([] : List Int)))
   (Option.bind (F_spec_l3Copy x_b) fun v3 =>
   Option.bind (Option.bind (iter (F_spec_BareRun_l5 x_steps) (v3.C.Regs, v3.C.Pc, v3.C.Root, v3.C.Vector, v3.C.Saved, v3.C.SavedUser, v3.C.Cause, v3.C.Bad, v3.C.Timer, v3.C.Waits, v3.C.User, v3.C.On, v3.C.Stopped, v3.Mem, v3.In, v3.Out, (0 : Int))) LO.val) fun j4 =>
    JO.run j4 (F_spec_BareRun_j4)))
theorem spec_BareRun_fn {x_b : DBare} {x_steps : Int} {R_ : DBare} (hh : F_spec_BareRun x_b x_steps = some R_) : Fn Try.prog 42 [.agg (B_43 x_b), .int .i64 x_steps] (.agg (bo (eI .i64) R_.C.Regs :: ru39 R_.C [bo (eI .i64) R_.Mem, bo (eI .i64) R_.In, bo (eI .i64) R_.Out])) := by
 unfold F_spec_BareRun at hh
 refine Fn.start low_spec_BareRun [0, 1] (E := sp 26 [(0, .agg (B_43 x_b)), (1, ii x_steps)]) (by kernel_rfl) (v := .agg (bo (eI .i64) R_.C.Regs :: ru39 R_.C [bo (eI .i64) R_.Mem, bo (eI .i64) R_.In, bo (eI .i64) R_.Out])) (Hr := []) (k := 0) (by kernel_rfl) ?_
 refine Aw.sreg [1, 2, 4] [0, 1] ?_
 let q1 : Root := ⟨43, (.nil :: zru39 [.nil, .nil, .nil])⟩
 refine yt (sp 26 [(1, ii x_steps), (2, pp 0), (4, pp 1)]) [(0, some ⟨43, (B_43 x_b)⟩), (1, some q1)] 2 ?_
 refine Aw.seq ?_
 refine Aw.sreg [1, 2, 4, 14] [0, 1] (yj 1  (sp 26 [(1, ii x_steps), (2, pp 0), (4, pp 1), (7, .agg (B_43 x_b))]) [(0, some ⟨43, (B_43 x_b)⟩), (1, some q1)] 2 ?_)
 obtain ⟨v1, hv1, hh⟩ := bind_some hh
 refine ys (.call 34 [(.t 7)]) (some 8) (op_call (r := bb v1) (v := bb v1) (Hr := []) (n' := 2) (spec_BareOk_fn hv1) (clz_v (vs := [.agg (B_43 x_b)]) (by kernel_rfl) (clz_c (clo_same (clean_agg (cl_B_43 _))) clz_n)) rfl rfl (by kernel_rfl) ?_)
 refine yu 2 [(8, bb v1), (9, bb (!v1)), (10, bb (!v1))] [(0, some ⟨43, (B_43 x_b)⟩), (1, some q1)] 2 ?_
 rcases cond_some hh with ⟨hb, hh⟩ | ⟨hb, hh⟩
 · refine yb 9 hb ?_
   refine yb 10 hb ?_
   refine yt (sp 26 [(1, ii x_steps), (2, pp 0), (4, pp 1), (14, bb true)]) [(0, some ⟨43, (B_43 x_b)⟩), (1, some q1)] 2 ?_
   refine cT rfl ?_
   refine sy [4] [1] (sp 26 [(4, pp 1)]) [(1, some q1)] 2 ?_
   refine Aw.ret ?_
   refine then_r ?_
   rw [some_some hh]
   exact gives (r' := .agg (.nil :: zru39 [.nil, .nil, .nil])) (by kernel_rfl) (Ent.clov (.one _ _ (clo_agg (clos_c (clo_nil (T := Int) (c := (eI .i64))) (cs1 (cs1 (cs1 (cs1 (cs1 (cs1 (cs1 (cs1 (cs1 (cs1 (cs1 (cs1 (clos_c (clo_nil (T := Int) (c := (eI .i64))) (clos_c (clo_nil (T := Int) (c := (eI .i64))) (clos_c (clo_nil (T := Int) (c := (eI .i64))) clos_n)))))))))))))))))))
 refine yb 9 hb ?_
 refine yb 10 hb ?_
 refine yu 1 [(9, bb false), (10, bb false), (11, ii x_steps)] [(0, some ⟨43, (B_43 x_b)⟩), (1, some q1)] 2 ?_
 obtain ⟨v2, hv2, hh⟩ := bind_some hh
 refine yg (.call 57 [(.t 11), (.c (ii 0)), (.c (ii 300))]) (some 12) 10 false (oc (spec_l1In_fn hv2) ?_)
 refine yt (sp 26 [(1, ii x_steps), (2, pp 0), (4, pp 1), (14, bb (!v2))]) [(0, some ⟨43, (B_43 x_b)⟩), (1, some q1)] 2 ?_
 rcases cond_some hh with ⟨hb, hh⟩ | ⟨hb, hh⟩
 · refine cT hb ?_
   refine sy [4] [1] (sp 26 [(4, pp 1)]) [(1, some q1)] 2 ?_
   refine Aw.ret ?_
   refine then_r ?_
   rw [some_some hh]
   exact gives (r' := .agg (.nil :: zru39 [.nil, .nil, .nil])) (by kernel_rfl) (Ent.clov (.one _ _ (clo_agg (clos_c (clo_nil (T := Int) (c := (eI .i64))) (cs1 (cs1 (cs1 (cs1 (cs1 (cs1 (cs1 (cs1 (cs1 (cs1 (cs1 (cs1 (clos_c (clo_nil (T := Int) (c := (eI .i64))) (clos_c (clo_nil (T := Int) (c := (eI .i64))) (clos_c (clo_nil (T := Int) (c := (eI .i64))) clos_n)))))))))))))))))))
 refine cF hb ?_
 refine Aw.xskip (fun _ _ _ hq => then_m hq) ?_
 refine Aw.sreg [1, 4, 5] [1, 2, 3, 4, 5, 6] (yj 1  (sp 26 [(1, ii x_steps), (2, pp 0), (4, pp 1), (14, bb (!v2)), (16, .agg (B_43 x_b))]) [(0, some ⟨43, (B_43 x_b)⟩), (1, some q1)] 2 ?_)
 obtain ⟨v3, hv3, hh⟩ := bind_some hh
 let q2 : Root := ⟨3, (fl (eI .i64) v3.Out)⟩
 let q3 : Root := ⟨3, (fl (eI .i64) v3.In)⟩
 let q4 : Root := ⟨3, (fl (eI .i64) v3.Mem)⟩
 let q5 : Root := ⟨3, (fl (eI .i64) v3.C.Regs)⟩
 refine ys (.call 71 [(.t 16)]) (some 17) (op_call (r := .agg (.own 3 1 (List.length v3.C.Regs) (fl (eI .i64) v3.C.Regs) :: ru39 v3.C [.own 3 1 (List.length v3.Mem) (fl (eI .i64) v3.Mem), .own 3 1 (List.length v3.In) (fl (eI .i64) v3.In), .own 3 1 (List.length v3.Out) (fl (eI .i64) v3.Out)])) (v := .agg (sw 2 v3.C.Regs :: ru39 v3.C [sw 3 v3.Mem, sw 4 v3.In, sw 5 v3.Out])) (Hr := [(5, some q2), (4, some q3), (3, some q4), (2, some q5)]) (n' := 6) (spec_l3Copy_fn hv3) (clz_v (vs := [.agg (B_43 x_b)]) (by kernel_rfl) (clz_c (clo_same (clean_agg (cl_B_43 _))) clz_n)) (by simp only [ru39, AV.noRef, noRefs, Bool.and_self, noRefs_fl nr_eI]) (by simp only [ru39, AV.noBor, noBors, Bool.and_self, noBors_fl nb_eI]) (by kernel_rfl) ?_)
 let q6 : Root := ⟨43, (sw 2 v3.C.Regs :: ru39 v3.C [sw 3 v3.Mem, sw 4 v3.In, sw 5 v3.Out])⟩
 refine yt (sp 26 [(1, ii x_steps), (4, pp 1), (5, pp 6)]) [(1, some q1), (2, some q5), (3, some q4), (4, some q3), (5, some q2), (6, some q6)] 7 ?_
 obtain ⟨j4, hh, hk4⟩ := bind_some hh
 refine Aw.join (S := (List Int) × Int × Int × Int × Int × Bool × Int × Int × Int × Bool × Bool × Bool × Bool × (List Int) × (List Int) × (List Int)) (fun s4 => sp 26 [(4, pp 0), (5, pp 1)]) (fun s4 => [(0, some ⟨43, (.nil :: zru39 [.nil, .nil, .nil])⟩), (1, some ⟨43, [bo (eI .i64) s4.1, ii s4.2.1, ii s4.2.2.1, ii s4.2.2.2.1, ii s4.2.2.2.2.1, bb s4.2.2.2.2.2.1, ii s4.2.2.2.2.2.2.1, ii s4.2.2.2.2.2.2.2.1, ii s4.2.2.2.2.2.2.2.2.1, bb s4.2.2.2.2.2.2.2.2.2.1, bb s4.2.2.2.2.2.2.2.2.2.2.1, bb s4.2.2.2.2.2.2.2.2.2.2.2.1, bb s4.2.2.2.2.2.2.2.2.2.2.2.2.1, bo (eI .i64) s4.2.2.2.2.2.2.2.2.2.2.2.2.2.1, bo (eI .i64) s4.2.2.2.2.2.2.2.2.2.2.2.2.2.2.1, bo (eI .i64) s4.2.2.2.2.2.2.2.2.2.2.2.2.2.2.2]⟩)]) 2 (fun s4 => F_spec_BareRun_j4 s4 = some R_) ?_ ?_
 · intro s4 hh
   unfold F_spec_BareRun_j4 at hh
   refine sy [4] [0] (sp 26 [(4, pp 0)]) [(0, some ⟨43, [bo (eI .i64) s4.1, ii s4.2.1, ii s4.2.2.1, ii s4.2.2.2.1, ii s4.2.2.2.2.1, bb s4.2.2.2.2.2.1, ii s4.2.2.2.2.2.2.1, ii s4.2.2.2.2.2.2.2.1, ii s4.2.2.2.2.2.2.2.2.1, bb s4.2.2.2.2.2.2.2.2.2.1, bb s4.2.2.2.2.2.2.2.2.2.2.1, bb s4.2.2.2.2.2.2.2.2.2.2.2.1, bb s4.2.2.2.2.2.2.2.2.2.2.2.2.1, bo (eI .i64) s4.2.2.2.2.2.2.2.2.2.2.2.2.2.1, bo (eI .i64) s4.2.2.2.2.2.2.2.2.2.2.2.2.2.2.1, bo (eI .i64) s4.2.2.2.2.2.2.2.2.2.2.2.2.2.2.2]⟩)] 2 ?_
   refine Aw.ret ?_
   rw [some_some hh]
   exact gives (r' := .agg [bo (eI .i64) s4.1, ii s4.2.1, ii s4.2.2.1, ii s4.2.2.2.1, ii s4.2.2.2.2.1, bb s4.2.2.2.2.2.1, ii s4.2.2.2.2.2.2.1, ii s4.2.2.2.2.2.2.2.1, ii s4.2.2.2.2.2.2.2.2.1, bb s4.2.2.2.2.2.2.2.2.2.1, bb s4.2.2.2.2.2.2.2.2.2.2.1, bb s4.2.2.2.2.2.2.2.2.2.2.2.1, bb s4.2.2.2.2.2.2.2.2.2.2.2.2.1, bo (eI .i64) s4.2.2.2.2.2.2.2.2.2.2.2.2.2.1, bo (eI .i64) s4.2.2.2.2.2.2.2.2.2.2.2.2.2.2.1, bo (eI .i64) s4.2.2.2.2.2.2.2.2.2.2.2.2.2.2.2]) (by kernel_rfl) (Ent.clov (.one _ _ (clo_agg (clos_c (clo_same (clean_bor (cleans_fl cl_eI))) (cs1 (cs1 (cs1 (cs1 (cs1 (cs1 (cs1 (cs1 (cs1 (cs1 (cs1 (cs1 (clos_c (clo_same (clean_bor (cleans_fl cl_eI))) (clos_c (clo_same (clean_bor (cleans_fl cl_eI))) (clos_c (clo_same (clean_bor (cleans_fl cl_eI))) clos_n)))))))))))))))))))
 intro Q4 hN4 hR4 hE4
 refine sy [1, 4, 5, 6] [1, 2, 3, 4, 5, 6] (sp 26 [(1, ii x_steps), (4, pp 1), (5, pp 6), (6, ii 0)]) [(1, some q1), (2, some q5), (3, some q4), (4, some q3), (5, some q2), (6, some q6)] 7 ?_
 refine Aw.block ?_
 obtain ⟨o5, hi5, hk5⟩ := bind_some hh
 let q7 : Root := ⟨43, (bo (eI .i64) v3.C.Regs :: ru39 v3.C [bo (eI .i64) v3.Mem, bo (eI .i64) v3.In, sw 5 v3.Out])⟩
 let q8 : Root := ⟨43, (bo (eI .i64) v3.C.Regs :: ru39 v3.C [bo (eI .i64) v3.Mem, sw 4 v3.In, sw 5 v3.Out])⟩
 let q9 : Root := ⟨43, (bo (eI .i64) v3.C.Regs :: ru39 v3.C [sw 3 v3.Mem, sw 4 v3.In, sw 5 v3.Out])⟩
 refine Aw.iter (fun (s5 : (List Int) × Int × Int × Int × Int × Bool × Int × Int × Int × Bool × Bool × Bool × Bool × (List Int) × (List Int) × (List Int) × Int) => sp 26 [(1, ii x_steps), (4, pp 0), (5, pp 1), (6, ii s5.2.2.2.2.2.2.2.2.2.2.2.2.2.2.2.2)]) (fun (s5 : (List Int) × Int × Int × Int × Int × Bool × Int × Int × Int × Bool × Bool × Bool × Bool × (List Int) × (List Int) × (List Int) × Int) => [(0, some ⟨43, (.nil :: zru39 [.nil, .nil, .nil])⟩), (1, some ⟨43, [bo (eI .i64) s5.1, ii s5.2.1, ii s5.2.2.1, ii s5.2.2.2.1, ii s5.2.2.2.2.1, bb s5.2.2.2.2.2.1, ii s5.2.2.2.2.2.2.1, ii s5.2.2.2.2.2.2.2.1, ii s5.2.2.2.2.2.2.2.2.1, bb s5.2.2.2.2.2.2.2.2.2.1, bb s5.2.2.2.2.2.2.2.2.2.2.1, bb s5.2.2.2.2.2.2.2.2.2.2.2.1, bb s5.2.2.2.2.2.2.2.2.2.2.2.2.1, bo (eI .i64) s5.2.2.2.2.2.2.2.2.2.2.2.2.2.1, bo (eI .i64) s5.2.2.2.2.2.2.2.2.2.2.2.2.2.2.1, bo (eI .i64) s5.2.2.2.2.2.2.2.2.2.2.2.2.2.2.2.1]⟩)]) 6 hi5 (Ent.trans (Ent.list2 [some 1, some 6, none, none, none, none] rfl rfl (by decide) (rens_sp (by kernel_rfl) (rl_c (u := ii x_steps) (by kernel_rfl) ren_i (rl_c (u := pp 1) (by kernel_rfl) (ren_p (by decide) rfl) (rl_c (u := pp 6) (by kernel_rfl) (ren_p (by decide) rfl) (rl_c (u := ii 0) (by kernel_rfl) ren_i rl_n))))) (hq q1 (rens_c ren_nil (rens_i (rens_i (rens_i (rens_i (rens_b (rens_i (rens_i (rens_i (rens_b (rens_b (rens_b (rens_b (rens_c ren_nil (rens_c ren_nil (rens_c ren_nil rens_n)))))))))))))))) (hq ⟨43, (B_43 v3)⟩ (rens_c (ren_bor (rens_same (noRefs_fl nr_eI))) (rens_i (rens_i (rens_i (rens_i (rens_b (rens_i (rens_i (rens_i (rens_b (rens_b (rens_b (rens_b (rens_c (ren_bor (rens_same (noRefs_fl nr_eI))) (rens_c (ren_bor (rens_same (noRefs_fl nr_eI))) (rens_c (ren_bor (rens_same (noRefs_fl nr_eI))) rens_n)))))))))))))))) hs_nil))) (Ent.trans (Ent.freeze (R := 5) (cs := (fl (eI .i64) v3.Out)) (e := 3) (xs2 := sp 26 [(1, ii x_steps), (4, pp 1), (5, pp 6), (6, ii 0)]) (H2 := [(1, some q1), (6, some ⟨43, (B_43 v3)⟩)]) (by kernel_rfl) (noOwn_fl no_eI) (frs_sp (by kernel_rfl) (fl_c (u := ii x_steps) (by kernel_rfl) (.same _) (fl_c (u := pp 1) (by kernel_rfl) (.same _) (fl_c (u := pp 6) (by kernel_rfl) (.same _) (fl_c (u := ii 0) (by kernel_rfl) (.same _) fl_n))))) (hf_c (t := q1) rfl (by kernel_rfl) rfl (frs_c (.same _) (frs_c (.same _) (frs_c (.same _) (frs_c (.same _) (frs_c (.same _) (frs_c (.same _) (frs_c (.same _) (frs_c (.same _) (frs_c (.same _) (frs_c (.same _) (frs_c (.same _) (frs_c (.same _) (frs_c (.same _) (frs_c (.same _) (frs_c (.same _) (frs_c (.same _) frs_n)))))))))))))))) (hf_c (t := q7) rfl (by kernel_rfl) rfl (frs_c (.same _) (frs_c (.same _) (frs_c (.same _) (frs_c (.same _) (frs_c (.same _) (frs_c (.same _) (frs_c (.same _) (frs_c (.same _) (frs_c (.same _) (frs_c (.same _) (frs_c (.same _) (frs_c (.same _) (frs_c (.same _) (frs_c (.same _) (frs_c (.same _) (frs_c (fr_all len_eI (by first | rfl | omega | (simp only [List.length_set, over_len, List.length_replicate, List.length_append, List.length_cons, List.length_nil, List.length_take, List.length_drop] <;> omega))) frs_n)))))))))))))))) hf_n))) (Ent.trans (Ent.freeze (R := 4) (cs := (fl (eI .i64) v3.In)) (e := 3) (xs2 := sp 26 [(1, ii x_steps), (4, pp 1), (5, pp 6), (6, ii 0)]) (H2 := [(1, some q1), (5, some q2), (6, some q7)]) (by kernel_rfl) (noOwn_fl no_eI) (frs_sp (by kernel_rfl) (fl_c (u := ii x_steps) (by kernel_rfl) (.same _) (fl_c (u := pp 1) (by kernel_rfl) (.same _) (fl_c (u := pp 6) (by kernel_rfl) (.same _) (fl_c (u := ii 0) (by kernel_rfl) (.same _) fl_n))))) (hf_c (t := q1) rfl (by kernel_rfl) rfl (frs_c (.same _) (frs_c (.same _) (frs_c (.same _) (frs_c (.same _) (frs_c (.same _) (frs_c (.same _) (frs_c (.same _) (frs_c (.same _) (frs_c (.same _) (frs_c (.same _) (frs_c (.same _) (frs_c (.same _) (frs_c (.same _) (frs_c (.same _) (frs_c (.same _) (frs_c (.same _) frs_n)))))))))))))))) (hf_c (t := q2) rfl (by kernel_rfl) rfl frs_same (hf_c (t := q8) rfl (by kernel_rfl) rfl (frs_c (.same _) (frs_c (.same _) (frs_c (.same _) (frs_c (.same _) (frs_c (.same _) (frs_c (.same _) (frs_c (.same _) (frs_c (.same _) (frs_c (.same _) (frs_c (.same _) (frs_c (.same _) (frs_c (.same _) (frs_c (.same _) (frs_c (.same _) (frs_c (fr_all len_eI (by first | rfl | omega | (simp only [List.length_set, over_len, List.length_replicate, List.length_append, List.length_cons, List.length_nil, List.length_take, List.length_drop] <;> omega))) (frs_c (.same _) frs_n)))))))))))))))) hf_n)))) (Ent.trans (Ent.freeze (R := 3) (cs := (fl (eI .i64) v3.Mem)) (e := 3) (xs2 := sp 26 [(1, ii x_steps), (4, pp 1), (5, pp 6), (6, ii 0)]) (H2 := [(1, some q1), (4, some q3), (5, some q2), (6, some q8)]) (by kernel_rfl) (noOwn_fl no_eI) (frs_sp (by kernel_rfl) (fl_c (u := ii x_steps) (by kernel_rfl) (.same _) (fl_c (u := pp 1) (by kernel_rfl) (.same _) (fl_c (u := pp 6) (by kernel_rfl) (.same _) (fl_c (u := ii 0) (by kernel_rfl) (.same _) fl_n))))) (hf_c (t := q1) rfl (by kernel_rfl) rfl (frs_c (.same _) (frs_c (.same _) (frs_c (.same _) (frs_c (.same _) (frs_c (.same _) (frs_c (.same _) (frs_c (.same _) (frs_c (.same _) (frs_c (.same _) (frs_c (.same _) (frs_c (.same _) (frs_c (.same _) (frs_c (.same _) (frs_c (.same _) (frs_c (.same _) (frs_c (.same _) frs_n)))))))))))))))) (hf_c (t := q3) rfl (by kernel_rfl) rfl frs_same (hf_c (t := q2) rfl (by kernel_rfl) rfl frs_same (hf_c (t := q9) rfl (by kernel_rfl) rfl (frs_c (.same _) (frs_c (.same _) (frs_c (.same _) (frs_c (.same _) (frs_c (.same _) (frs_c (.same _) (frs_c (.same _) (frs_c (.same _) (frs_c (.same _) (frs_c (.same _) (frs_c (.same _) (frs_c (.same _) (frs_c (.same _) (frs_c (fr_all len_eI (by first | rfl | omega | (simp only [List.length_set, over_len, List.length_replicate, List.length_append, List.length_cons, List.length_nil, List.length_take, List.length_drop] <;> omega))) (frs_c (.same _) (frs_c (.same _) frs_n)))))))))))))))) hf_n))))) (Ent.freeze (R := 2) (cs := (fl (eI .i64) v3.C.Regs)) (e := 3) (xs2 := sp 26 [(1, ii x_steps), (4, pp 1), (5, pp 6), (6, ii 0)]) (H2 := [(1, some q1), (3, some q4), (4, some q3), (5, some q2), (6, some q9)]) (by kernel_rfl) (noOwn_fl no_eI) (frs_sp (by kernel_rfl) (fl_c (u := ii x_steps) (by kernel_rfl) (.same _) (fl_c (u := pp 1) (by kernel_rfl) (.same _) (fl_c (u := pp 6) (by kernel_rfl) (.same _) (fl_c (u := ii 0) (by kernel_rfl) (.same _) fl_n))))) (hf_c (t := q1) rfl (by kernel_rfl) rfl (frs_c (.same _) (frs_c (.same _) (frs_c (.same _) (frs_c (.same _) (frs_c (.same _) (frs_c (.same _) (frs_c (.same _) (frs_c (.same _) (frs_c (.same _) (frs_c (.same _) (frs_c (.same _) (frs_c (.same _) (frs_c (.same _) (frs_c (.same _) (frs_c (.same _) (frs_c (.same _) frs_n)))))))))))))))) (hf_c (t := q4) rfl (by kernel_rfl) rfl frs_same (hf_c (t := q3) rfl (by kernel_rfl) rfl frs_same (hf_c (t := q2) rfl (by kernel_rfl) rfl frs_same (hf_c (t := q6) rfl (by kernel_rfl) rfl (frs_c (fr_all len_eI (by first | rfl | omega | (simp only [List.length_set, over_len, List.length_replicate, List.length_append, List.length_cons, List.length_nil, List.length_take, List.length_drop] <;> omega))) (frs_c (.same _) (frs_c (.same _) (frs_c (.same _) (frs_c (.same _) (frs_c (.same _) (frs_c (.same _) (frs_c (.same _) (frs_c (.same _) (frs_c (.same _) (frs_c (.same _) (frs_c (.same _) (frs_c (.same _) (frs_c (.same _) (frs_c (.same _) (frs_c (.same _) frs_n)))))))))))))))) hf_n)))))))))) ?_
 intro s5 u5 Q5 hh hN5 hX5 hR5
 unfold F_spec_BareRun_l5 at hh
 refine Aw.seq ?_
 refine Aw.sreg [1, 4, 5, 6, 20] [0, 1] ?_
 let q10 : Root := ⟨43, [bo (eI .i64) s5.1, ii s5.2.1, ii s5.2.2.1, ii s5.2.2.2.1, ii s5.2.2.2.2.1, bb s5.2.2.2.2.2.1, ii s5.2.2.2.2.2.2.1, ii s5.2.2.2.2.2.2.2.1, ii s5.2.2.2.2.2.2.2.2.1, bb s5.2.2.2.2.2.2.2.2.2.1, bb s5.2.2.2.2.2.2.2.2.2.2.1, bb s5.2.2.2.2.2.2.2.2.2.2.2.1, bb s5.2.2.2.2.2.2.2.2.2.2.2.2.1, bo (eI .i64) s5.2.2.2.2.2.2.2.2.2.2.2.2.2.1, bo (eI .i64) s5.2.2.2.2.2.2.2.2.2.2.2.2.2.2.1, bo (eI .i64) s5.2.2.2.2.2.2.2.2.2.2.2.2.2.2.2.1]⟩
 refine yt (sp 26 [(1, ii x_steps), (4, pp 0), (5, pp 1), (6, ii s5.2.2.2.2.2.2.2.2.2.2.2.2.2.2.2.2), (20, bb (decide (s5.2.2.2.2.2.2.2.2.2.2.2.2.2.2.2.2 < x_steps)))]) [(0, some q1), (1, some q10)] 6 ?_
 rcases cond_some hh with ⟨hb, hh⟩ | ⟨hb, hh⟩
 · refine cT hb ?_
   refine Aw.xskip (fun _ _ _ hq => then_m hq) ?_
   refine Aw.seq ?_
   refine Aw.block ?_
   refine Aw.xreg [1, 4, 5, 6] [0, 1] (fun _ _ _ hq => blk_m (then_m hq)) ?_
   refine yj 1  (sp 26 [(1, ii x_steps), (4, pp 0), (5, pp 1), (6, ii s5.2.2.2.2.2.2.2.2.2.2.2.2.2.2.2.2), (20, bb (decide (s5.2.2.2.2.2.2.2.2.2.2.2.2.2.2.2.2 < x_steps))), (23, .agg [bo (eI .i64) s5.1, ii s5.2.1, ii s5.2.2.1, ii s5.2.2.2.1, ii s5.2.2.2.2.1, bb s5.2.2.2.2.2.1, ii s5.2.2.2.2.2.2.1, ii s5.2.2.2.2.2.2.2.1, ii s5.2.2.2.2.2.2.2.2.1, bb s5.2.2.2.2.2.2.2.2.2.1, bb s5.2.2.2.2.2.2.2.2.2.2.1, bb s5.2.2.2.2.2.2.2.2.2.2.2.1, bb s5.2.2.2.2.2.2.2.2.2.2.2.2.1, bo (eI .i64) s5.2.2.2.2.2.2.2.2.2.2.2.2.2.1, bo (eI .i64) s5.2.2.2.2.2.2.2.2.2.2.2.2.2.2.1, bo (eI .i64) s5.2.2.2.2.2.2.2.2.2.2.2.2.2.2.2.1])]) [(0, some q1), (1, some q10)] 6 ?_
   obtain ⟨v6, hv6, hh⟩ := bind_some hh
   refine ys (.call 38 [(.t 23)]) (some 24) (op_callp (r := .agg (B_43 v6)) (v := .agg (B_43 v6)) (Hr := []) (n' := 6) (spec_BareStep_fn hv6) (clz_v (vs := [.agg [bo (eI .i64) s5.1, ii s5.2.1, ii s5.2.2.1, ii s5.2.2.2.1, ii s5.2.2.2.2.1, bb s5.2.2.2.2.2.1, ii s5.2.2.2.2.2.2.1, ii s5.2.2.2.2.2.2.2.1, ii s5.2.2.2.2.2.2.2.2.1, bb s5.2.2.2.2.2.2.2.2.2.1, bb s5.2.2.2.2.2.2.2.2.2.2.1, bb s5.2.2.2.2.2.2.2.2.2.2.2.1, bb s5.2.2.2.2.2.2.2.2.2.2.2.2.1, bo (eI .i64) s5.2.2.2.2.2.2.2.2.2.2.2.2.2.1, bo (eI .i64) s5.2.2.2.2.2.2.2.2.2.2.2.2.2.2.1, bo (eI .i64) s5.2.2.2.2.2.2.2.2.2.2.2.2.2.2.2.1]]) (by kernel_rfl) (clz_c (clo_agg (clos_c (clo_same (clean_bor (cleans_fl cl_eI))) (cs1 (cs1 (cs1 (cs1 (cs1 (cs1 (cs1 (cs1 (cs1 (cs1 (cs1 (cs1 (clos_c (clo_same (clean_bor (cleans_fl cl_eI))) (clos_c (clo_same (clean_bor (cleans_fl cl_eI))) (clos_c (clo_same (clean_bor (cleans_fl cl_eI))) clos_n))))))))))))))))) clz_n)) (by simp only [AV.noRef, noRefs, Bool.and_self, noRefs_fl nr_eI, nr_B_43]) (by kernel_rfl) ?_)
   refine yt (sp 26 [(1, ii x_steps), (4, pp 0), (5, pp 1), (6, ii s5.2.2.2.2.2.2.2.2.2.2.2.2.2.2.2.2)]) [(0, some q1), (1, some ⟨43, (B_43 v6)⟩)] 6 ?_
   refine Aw.oreg ?_
   refine ye (sp 26 [(1, ii x_steps), (4, pp 0), (5, pp 1), (6, ii (w64 (s5.2.2.2.2.2.2.2.2.2.2.2.2.2.2.2.2 + (1 : Int)))), (21, ii s5.2.2.2.2.2.2.2.2.2.2.2.2.2.2.2.2), (22, ii (w64 (s5.2.2.2.2.2.2.2.2.2.2.2.2.2.2.2.2 + (1 : Int))))]) [(0, some q1), (1, some ⟨43, (B_43 v6)⟩)] 6 ?_
   exact hN5 (v6.C.Regs, v6.C.Pc, v6.C.Root, v6.C.Vector, v6.C.Saved, v6.C.SavedUser, v6.C.Cause, v6.C.Bad, v6.C.Timer, v6.C.Waits, v6.C.User, v6.C.On, v6.C.Stopped, v6.Mem, v6.In, v6.Out, (w64 (s5.2.2.2.2.2.2.2.2.2.2.2.2.2.2.2.2 + (1 : Int)))) _ _ _ (some_some hh) (Ent.list2 [some 0, some 1, none, none, none, none] rfl rfl (by decide) (rens_sp (by kernel_rfl) (rl_c (u := ii x_steps) (by kernel_rfl) ren_i (rl_c (u := pp 0) (by kernel_rfl) (ren_p (by decide) rfl) (rl_c (u := pp 1) (by kernel_rfl) (ren_p (by decide) rfl) (rl_c (u := ii (w64 (s5.2.2.2.2.2.2.2.2.2.2.2.2.2.2.2.2 + (1 : Int)))) (by kernel_rfl) ren_i rl_n))))) (hq q1 (rens_c ren_nil (rens_i (rens_i (rens_i (rens_i (rens_b (rens_i (rens_i (rens_i (rens_b (rens_b (rens_b (rens_b (rens_c ren_nil (rens_c ren_nil (rens_c ren_nil rens_n)))))))))))))))) (hq ⟨43, (B_43 v6)⟩ (rens_c (ren_bor (rens_same (noRefs_fl nr_eI))) (rens_i (rens_i (rens_i (rens_i (rens_b (rens_i (rens_i (rens_i (rens_b (rens_b (rens_b (rens_b (rens_c (ren_bor (rens_same (noRefs_fl nr_eI))) (rens_c (ren_bor (rens_same (noRefs_fl nr_eI))) (rens_c (ren_bor (rens_same (noRefs_fl nr_eI))) rens_n)))))))))))))))) hs_nil)))
 refine cF hb ?_
 refine Aw.exit ?_
 refine then_x ?_
 refine hX5 _ _ _ _ _ (some_some hh) ?_
 intro hout
 rw [hout] at hk5
 refine blk_x ?_
 obtain rfl := some_some hk5
 exact hN4 (s5.1, s5.2.1, s5.2.2.1, s5.2.2.2.1, s5.2.2.2.2.1, s5.2.2.2.2.2.1, s5.2.2.2.2.2.2.1, s5.2.2.2.2.2.2.2.1, s5.2.2.2.2.2.2.2.2.1, s5.2.2.2.2.2.2.2.2.2.1, s5.2.2.2.2.2.2.2.2.2.2.1, s5.2.2.2.2.2.2.2.2.2.2.2.1, s5.2.2.2.2.2.2.2.2.2.2.2.2.1, s5.2.2.2.2.2.2.2.2.2.2.2.2.2.1, s5.2.2.2.2.2.2.2.2.2.2.2.2.2.2.1, s5.2.2.2.2.2.2.2.2.2.2.2.2.2.2.2.1) _ _ _ hk4 (Ent.list2 [some 0, some 1] rfl rfl (by decide) (rens_sp (by kernel_rfl) (rl_c (u := pp 0) (by kernel_rfl) (ren_p (by decide) rfl) (rl_c (u := pp 1) (by kernel_rfl) (ren_p (by decide) rfl) rl_n))) (hq q1 (rens_c ren_nil (rens_i (rens_i (rens_i (rens_i (rens_b (rens_i (rens_i (rens_i (rens_b (rens_b (rens_b (rens_b (rens_c ren_nil (rens_c ren_nil (rens_c ren_nil rens_n)))))))))))))))) (hq q10 (rens_c (ren_bor (rens_same (noRefs_fl nr_eI))) (rens_i (rens_i (rens_i (rens_i (rens_b (rens_i (rens_i (rens_i (rens_b (rens_b (rens_b (rens_b (rens_c (ren_bor (rens_same (noRefs_fl nr_eI))) (rens_c (ren_bor (rens_same (noRefs_fl nr_eI))) (rens_c (ren_bor (rens_same (noRefs_fl nr_eI))) rens_n)))))))))))))))) hs_nil)))
end Go.Proofs.Ythbefahhpikcaaa
