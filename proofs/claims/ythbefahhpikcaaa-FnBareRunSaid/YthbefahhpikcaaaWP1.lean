/- Plain functions of the program, and that it hands back what they say. Made by program. -/
import Derived.Test.YthbefahhpikcaaaWT
import Derived.Test.YthbefahhpikcaaaProg
import Derived.Test.YthbefahhpikcaaaWN1
import Derived.Test.YthbefahhpikcaaaWO1
import Derived.Test.YthbefahhpikcaaaWV1
namespace Go.Proofs.Ythbefahhpikcaaa
open Go.RowKit
set_option maxRecDepth 100000
set_option linter.all false
set_option maxHeartbeats 0
def Lf88_r0 : List LOper := [oo 2 (.mv (.c .nil))]
def Lf88_r1 : List LOper := [om 4 0, oo 5 (.len (.t 4)), oo 6 (.mk 3 1 8 [(ii 0)] (.t 5)), om 3 6]
def Lf88_r2 : List LOper := [om 7 3, om 8 0, oo 9 (.cpy 1 (.t 7) (.t 8))]
def Lf88_r3 : List LOper := [om 10 3, om 2 10]
def Lf88 : LFun := ⟨11, [(.tmp 2)], (.seq (.reg false Lf88_r0) (.seq (.reg false Lf88_r1) (.seq (.reg false Lf88_r2) (.seq (.reg false Lf88_r3) .ret))))⟩
theorem low_impl_copied : lowFun Go.Proofs.Try.prog 88 = some Lf88 := by kernel_rfl
noncomputable def F_impl_copied (x_list : List Int) : Option (List Int) :=
 grd ((0 : Int) ≤ (((List.length x_list) : Nat) : Int) ∧ (((List.length x_list) : Nat) : Int) * 8 ≤ 2 ^ 47 ∧ (((List.length x_list) : Nat) : Int) ≤ 2 ^ 47) (some (over (List.replicate (Int.toNat (((List.length x_list) : Nat) : Int)) (0 : Int)) 0 (List.length (List.replicate (Int.toNat (((List.length x_list) : Nat) : Int)) (0 : Int))) x_list))
theorem impl_copied_fn {x_list : List Int} {R_ : (List Int)} (hh : F_impl_copied x_list = some R_) : Fn Try.prog 88 [bo (eI .i64) x_list] (.own 3 1 (List.length R_) (fl (eI .i64) R_)) := by
 unfold F_impl_copied at hh
 refine Fn.start low_impl_copied [0] (E := sp 11 [(0, bo (eI .i64) x_list)]) (by kernel_rfl) (v := sw 0 R_) (Hr := [(0, some ⟨3, (fl (eI .i64) R_)⟩)]) (k := 1) (by kernel_rfl) ?_
 refine sy [0] [] (sp 11 [(0, bo (eI .i64) x_list)]) [] 0 ?_
 refine Aw.sreg [0, 3] [0] (yu 2 [(4, bo (eI .i64) x_list), (5, ii (((List.length x_list) : Nat) : Int))] [] 0 ?_)
 obtain ⟨hg2, hh⟩ := grd_some hh
 refine ys (.mk 3 1 8 [(ii 0)] (.t 5)) (some 6) (op_mk (c := (eI .i64)) (d := (0 : Int)) (k := (((List.length x_list) : Nat) : Int)) (by kernel_rfl) hg2 (by kernel_rfl) ?_)
 let q1 : Root := ⟨3, (fl (eI .i64) (List.replicate (Int.toNat (((List.length x_list) : Nat) : Int)) (0 : Int)))⟩
 refine yt (sp 11 [(0, bo (eI .i64) x_list), (3, .sref 0 [] 0 (List.length (List.replicate (Int.toNat (((List.length x_list) : Nat) : Int)) (0 : Int))) 1)]) [(0, some q1)] 1 ?_
 refine Aw.sreg [3] [0] (yu 2 [(7, .sref 0 [] 0 (List.length (List.replicate (Int.toNat (((List.length x_list) : Nat) : Int)) (0 : Int))) 1), (8, bo (eI .i64) x_list)] [(0, some q1)] 1 ?_)
 let q2 : Root := ⟨3, (fl (eI .i64) (over (List.replicate (Int.toNat (((List.length x_list) : Nat) : Int)) (0 : Int)) 0 (List.length (List.replicate (Int.toNat (((List.length x_list) : Nat) : Int)) (0 : Int))) x_list))⟩
 refine ys (.cpy 1 (.t 7) (.t 8)) (some 9) (op_cpy (c := (eI .i64)) (xs := (List.replicate (Int.toNat (((List.length x_list) : Nat) : Int)) (0 : Int))) (ys := x_list) (e := 3) (r := 0) (π := []) (o := 0) (k := (List.length (List.replicate (Int.toNat (((List.length x_list) : Nat) : Int)) (0 : Int)))) (i := 0) (H' := [(0, some q2), (0, some q1)]) len_eI (rpv (by kernel_rfl) (rp_bor (c := (eI .i64)) (xs := x_list) len_eI)) (by kernel_rfl) (by kernel_rfl) (by omega) (by first | omega | (simp only [List.length_set, List.length_append, List.length_replicate, List.length_cons, List.length_nil, List.length_take, List.length_drop, over_len] at *; omega)) (by kernel_rfl) ?_)
 refine yt (sp 11 [(3, .sref 0 [] 0 (List.length (List.replicate (Int.toNat (((List.length x_list) : Nat) : Int)) (0 : Int))) 1)]) [(0, some q2)] 1 ?_
 refine sy [2] [0] (sp 11 [(2, .sref 0 [] 0 (List.length (List.replicate (Int.toNat (((List.length x_list) : Nat) : Int)) (0 : Int))) 1)]) [(0, some q2)] 1 ?_
 refine Aw.ret ?_
 rw [some_some hh]
 exact gives (r' := .sref 0 [] 0 (List.length (List.replicate (Int.toNat (((List.length x_list) : Nat) : Int)) (0 : Int))) 1) (by kernel_rfl) (Ent.list [some 0] rfl rfl (Nat.zero_le _) (rens_1 ren_sx) (hq q2 (rens_same (noRefs_fl nr_eI)) hs_nil))
def Lf68_r0 : List LOper := [oo 1 (.box 43 (.t 0)), oo 2 (.fresh 43 [.nil, (ii 0), (ii 0), (ii 0), (ii 0), (bb false), (ii 0), (ii 0), (ii 0), (bb false), (bb false), (bb false), (bb false), .nil, .nil, .nil])]
def Lf68_r1 : List LOper := [oo 3 (.fadr 0 (.t 1)), oo 4 (.fadr 0 (.t 3)), oo 5 (.load false 1 (.t 4)), oo 6 (.call 88 [(.t 5)]), oo 7 (.fadr 0 (.t 1)), oo 8 (.fadr 0 (.t 7)), ⟨none, (.store 1 (.t 8) (.t 6)), none⟩]
def Lf68_r2 : List LOper := [oo 9 (.fadr 13 (.t 1)), oo 10 (.load false 1 (.t 9)), oo 11 (.call 88 [(.t 10)]), oo 12 (.fadr 13 (.t 1)), ⟨none, (.store 1 (.t 12) (.t 11)), none⟩]
def Lf68_r3 : List LOper := [oo 13 (.fadr 14 (.t 1)), oo 14 (.load false 1 (.t 13)), oo 15 (.call 88 [(.t 14)]), oo 16 (.fadr 14 (.t 1)), ⟨none, (.store 1 (.t 16) (.t 15)), none⟩]
def Lf68_r4 : List LOper := [oo 17 (.fadr 15 (.t 1)), oo 18 (.load false 1 (.t 17)), oo 19 (.call 88 [(.t 18)]), oo 20 (.fadr 15 (.t 1)), ⟨none, (.store 1 (.t 20) (.t 19)), none⟩]
def Lf68_r5 : List LOper := [oo 21 (.load true 16 (.t 1)), ⟨none, (.store 16 (.t 2) (.t 21)), none⟩]
def Lf68 : LFun := ⟨22, [(.cell 2 true 16)], (.seq (.reg false Lf68_r0) (.seq (.reg false Lf68_r1) (.seq (.reg false Lf68_r2) (.seq (.reg false Lf68_r3) (.seq (.reg false Lf68_r4) (.seq (.reg false Lf68_r5) .ret))))))⟩
theorem low_impl_copiedBare : lowFun Go.Proofs.Try.prog 68 = some Lf68 := by kernel_rfl
noncomputable def F_impl_copiedBare (x_b : DBare) : Option DBare :=
 Option.bind (F_impl_copied x_b.C.Regs) fun v1 =>
 Option.bind (F_impl_copied x_b.Mem) fun v2 =>
 Option.bind (F_impl_copied x_b.In) fun v3 =>
 Option.bind (F_impl_copied x_b.Out) fun v4 =>
 some (DBare.mk (DCore.mk v1 x_b.C.Pc x_b.C.Root x_b.C.Vector x_b.C.Saved x_b.C.SavedUser x_b.C.Cause x_b.C.Bad x_b.C.Timer x_b.C.Waits x_b.C.User x_b.C.On x_b.C.Stopped) v2 v3 v4)
theorem impl_copiedBare_fn {x_b : DBare} {R_ : DBare} (hh : F_impl_copiedBare x_b = some R_) : Fn Try.prog 68 [.agg (B_43 x_b)] (.agg (.own 3 1 (List.length R_.C.Regs) (fl (eI .i64) R_.C.Regs) :: ru39 R_.C [.own 3 1 (List.length R_.Mem) (fl (eI .i64) R_.Mem), .own 3 1 (List.length R_.In) (fl (eI .i64) R_.In), .own 3 1 (List.length R_.Out) (fl (eI .i64) R_.Out)])) := by
 unfold F_impl_copiedBare at hh
 refine Fn.start low_impl_copiedBare [0] (E := sp 22 [(0, .agg (B_43 x_b))]) (by kernel_rfl) (v := .agg (sw 0 R_.C.Regs :: ru39 R_.C [sw 1 R_.Mem, sw 2 R_.In, sw 3 R_.Out])) (Hr := [(3, some ⟨3, (fl (eI .i64) R_.Out)⟩), (2, some ⟨3, (fl (eI .i64) R_.In)⟩), (1, some ⟨3, (fl (eI .i64) R_.Mem)⟩), (0, some ⟨3, (fl (eI .i64) R_.C.Regs)⟩)]) (k := 4) (by kernel_rfl) ?_
 refine Aw.sreg [1, 2] [0, 1] ?_
 let q1 : Root := ⟨43, (.nil :: zru39 [.nil, .nil, .nil])⟩
 refine yt (sp 22 [(1, pp 0), (2, pp 1)]) [(0, some ⟨43, (B_43 x_b)⟩), (1, some q1)] 2 ?_
 refine Aw.sreg [1, 2] [0, 1, 2] (yu 3 [(3, pp 0), (4, pp 0), (5, bo (eI .i64) x_b.C.Regs)] [(0, some ⟨43, (B_43 x_b)⟩), (1, some q1)] 2 ?_)
 obtain ⟨v1, hv1, hh⟩ := bind_some hh
 refine ys (.call 88 [(.t 5)]) (some 6) (op_call (r := .own 3 1 (List.length v1) (fl (eI .i64) v1)) (v := sw 2 v1) (Hr := [(2, some ⟨3, (fl (eI .i64) v1)⟩)]) (n' := 3) (impl_copied_fn hv1) (clz_v (vs := [bo (eI .i64) x_b.C.Regs]) (by kernel_rfl) (clz_c (clo_same (clean_bor (cleans_fl cl_eI))) clz_n)) (by simp only [AV.noRef, noRefs, Bool.and_self, noRefs_fl nr_eI]) (by simp only [AV.noBor, noBors, Bool.and_self, noBors_fl nb_eI]) (by kernel_rfl) ?_)
 let q2 : Root := ⟨43, (sw 2 v1 :: ru39 x_b.C [bo (eI .i64) x_b.Mem, bo (eI .i64) x_b.In, bo (eI .i64) x_b.Out])⟩
 refine yt (sp 22 [(1, pp 0), (2, pp 1)]) [(0, some q2), (1, some q1), (2, some ⟨3, (fl (eI .i64) v1)⟩)] 3 ?_
 refine Aw.sreg [1, 2] [0, 1, 2, 3] (yu 2 [(9, .ptr 0 [] 13), (10, bo (eI .i64) x_b.Mem)] [(0, some q2), (1, some q1), (2, some ⟨3, (fl (eI .i64) v1)⟩)] 3 ?_)
 obtain ⟨v2, hv2, hh⟩ := bind_some hh
 refine ys (.call 88 [(.t 10)]) (some 11) (op_call (r := .own 3 1 (List.length v2) (fl (eI .i64) v2)) (v := sw 3 v2) (Hr := [(3, some ⟨3, (fl (eI .i64) v2)⟩)]) (n' := 4) (impl_copied_fn hv2) (clz_v (vs := [bo (eI .i64) x_b.Mem]) (by kernel_rfl) (clz_c (clo_same (clean_bor (cleans_fl cl_eI))) clz_n)) (by simp only [AV.noRef, noRefs, Bool.and_self, noRefs_fl nr_eI]) (by simp only [AV.noBor, noBors, Bool.and_self, noBors_fl nb_eI]) (by kernel_rfl) ?_)
 let q3 : Root := ⟨43, (sw 2 v1 :: ru39 x_b.C [sw 3 v2, bo (eI .i64) x_b.In, bo (eI .i64) x_b.Out])⟩
 refine yt (sp 22 [(1, pp 0), (2, pp 1)]) [(0, some q3), (1, some q1), (2, some ⟨3, (fl (eI .i64) v1)⟩), (3, some ⟨3, (fl (eI .i64) v2)⟩)] 4 ?_
 refine Aw.sreg [1, 2] [0, 1, 2, 3, 4] (yu 2 [(13, .ptr 0 [] 14), (14, bo (eI .i64) x_b.In)] [(0, some q3), (1, some q1), (2, some ⟨3, (fl (eI .i64) v1)⟩), (3, some ⟨3, (fl (eI .i64) v2)⟩)] 4 ?_)
 obtain ⟨v3, hv3, hh⟩ := bind_some hh
 refine ys (.call 88 [(.t 14)]) (some 15) (op_call (r := .own 3 1 (List.length v3) (fl (eI .i64) v3)) (v := sw 4 v3) (Hr := [(4, some ⟨3, (fl (eI .i64) v3)⟩)]) (n' := 5) (impl_copied_fn hv3) (clz_v (vs := [bo (eI .i64) x_b.In]) (by kernel_rfl) (clz_c (clo_same (clean_bor (cleans_fl cl_eI))) clz_n)) (by simp only [AV.noRef, noRefs, Bool.and_self, noRefs_fl nr_eI]) (by simp only [AV.noBor, noBors, Bool.and_self, noBors_fl nb_eI]) (by kernel_rfl) ?_)
 let q4 : Root := ⟨43, (sw 2 v1 :: ru39 x_b.C [sw 3 v2, sw 4 v3, bo (eI .i64) x_b.Out])⟩
 refine yt (sp 22 [(1, pp 0), (2, pp 1)]) [(0, some q4), (1, some q1), (2, some ⟨3, (fl (eI .i64) v1)⟩), (3, some ⟨3, (fl (eI .i64) v2)⟩), (4, some ⟨3, (fl (eI .i64) v3)⟩)] 5 ?_
 refine Aw.sreg [1, 2] [0, 1, 2, 3, 4, 5] (yu 2 [(17, .ptr 0 [] 15), (18, bo (eI .i64) x_b.Out)] [(0, some q4), (1, some q1), (2, some ⟨3, (fl (eI .i64) v1)⟩), (3, some ⟨3, (fl (eI .i64) v2)⟩), (4, some ⟨3, (fl (eI .i64) v3)⟩)] 5 ?_)
 obtain ⟨v4, hv4, hh⟩ := bind_some hh
 refine ys (.call 88 [(.t 18)]) (some 19) (op_call (r := .own 3 1 (List.length v4) (fl (eI .i64) v4)) (v := sw 5 v4) (Hr := [(5, some ⟨3, (fl (eI .i64) v4)⟩)]) (n' := 6) (impl_copied_fn hv4) (clz_v (vs := [bo (eI .i64) x_b.Out]) (by kernel_rfl) (clz_c (clo_same (clean_bor (cleans_fl cl_eI))) clz_n)) (by simp only [AV.noRef, noRefs, Bool.and_self, noRefs_fl nr_eI]) (by simp only [AV.noBor, noBors, Bool.and_self, noBors_fl nb_eI]) (by kernel_rfl) ?_)
 let q5 : Root := ⟨43, (sw 2 v1 :: ru39 x_b.C [sw 3 v2, sw 4 v3, sw 5 v4])⟩
 refine yt (sp 22 [(1, pp 0), (2, pp 1)]) [(0, some q5), (1, some q1), (2, some ⟨3, (fl (eI .i64) v1)⟩), (3, some ⟨3, (fl (eI .i64) v2)⟩), (4, some ⟨3, (fl (eI .i64) v3)⟩), (5, some ⟨3, (fl (eI .i64) v4)⟩)] 6 ?_
 refine sy [2] [1, 2, 3, 4, 5] (sp 22 [(2, pp 1)]) [(1, some q5), (2, some ⟨3, (fl (eI .i64) v1)⟩), (3, some ⟨3, (fl (eI .i64) v2)⟩), (4, some ⟨3, (fl (eI .i64) v3)⟩), (5, some ⟨3, (fl (eI .i64) v4)⟩)] 6 ?_
 refine Aw.ret ?_
 rw [some_some hh]
 exact gives (r' := .agg (sw 2 v1 :: ru39 x_b.C [sw 3 v2, sw 4 v3, sw 5 v4])) (by kernel_rfl) (Ent.list [some 2, some 3, some 4, some 5] rfl rfl (Nat.zero_le _) (rens_1 (ren_agg (rens_c ren_sx (rens_i (rens_i (rens_i (rens_i (rens_b (rens_i (rens_i (rens_i (rens_b (rens_b (rens_b (rens_b (rens_c ren_sx (rens_c ren_sx (rens_c ren_sx rens_n)))))))))))))))))) (hq ⟨3, (fl (eI .i64) v4)⟩ (rens_same (noRefs_fl nr_eI)) (hq ⟨3, (fl (eI .i64) v3)⟩ (rens_same (noRefs_fl nr_eI)) (hq ⟨3, (fl (eI .i64) v2)⟩ (rens_same (noRefs_fl nr_eI)) (hq ⟨3, (fl (eI .i64) v1)⟩ (rens_same (noRefs_fl nr_eI)) hs_nil)))))
def Lf89_r0 : List LOper := [oo 1 (.box 39 (.t 0)), oo 2 (.fresh 39 [.nil, (ii 0), (ii 0), (ii 0), (ii 0), (bb false), (ii 0), (ii 0), (ii 0), (bb false), (bb false), (bb false), (bb false)])]
def Lf89_r1 : List LOper := [oo 3 (.fadr 8 (.t 1)), oo 4 (.load false 1 (.t 3)), oo 5 (.bin .eql (.t 4) (.c (ii 0)))]
def Lf89_r2 : List LOper := [oo 6 (.load true 13 (.t 1)), ⟨none, (.store 13 (.t 2) (.t 6)), none⟩]
def Lf89_r3 : List LOper := [oo 7 (.fadr 8 (.t 1)), oo 8 (.load false 1 (.t 7)), oo 9 (.bin .sub (.t 8) (.c (ii 1))), oo 10 (.fadr 8 (.t 1)), ⟨none, (.store 1 (.t 10) (.t 9)), none⟩]
def Lf89_r4 : List LOper := [oo 11 (.fadr 8 (.t 1)), oo 12 (.load false 1 (.t 11)), oo 13 (.bin .eql (.t 12) (.c (ii 0)))]
def Lf89_r5 : List LOper := [oo 14 (.fadr 9 (.t 1)), ⟨none, (.store 1 (.t 14) (.c (bb true))), none⟩]
def Lf89_r6 : List LOper := [oo 15 (.load true 13 (.t 1)), ⟨none, (.store 13 (.t 2) (.t 15)), none⟩]
def Lf89 : LFun := ⟨16, [(.cell 2 true 13)], (.seq (.reg false Lf89_r0) (.seq (.seq (.reg false Lf89_r1) (.cond (.t 5) (.seq (.reg false Lf89_r2) .ret) .skip)) (.seq (.reg false Lf89_r3) (.seq (.seq (.reg false Lf89_r4) (.cond (.t 13) (.reg false Lf89_r5) .skip)) (.seq (.reg false Lf89_r6) .ret)))))⟩
theorem low_impl_ticked : lowFun Go.Proofs.Try.prog 89 = some Lf89 := by kernel_rfl
noncomputable def F_impl_ticked_j1 (x_c : DCore) (s1 : Bool) : Option DCore :=
 some (DCore.mk x_c.Regs x_c.Pc x_c.Root x_c.Vector x_c.Saved x_c.SavedUser x_c.Cause x_c.Bad (w64 (x_c.Timer - (1 : Int))) s1 x_c.User x_c.On x_c.Stopped)
noncomputable def F_impl_ticked (x_c : DCore) : Option DCore :=
 cond (decide (x_c.Timer = (0 : Int)))
  (some x_c)
  (Option.bind (cond (decide ((w64 (x_c.Timer - (1 : Int))) = (0 : Int)))
   (some (.go true))
   (some (.go x_c.Waits))) fun j1 =>
   JO.run j1 (F_impl_ticked_j1 x_c))
theorem impl_ticked_fn {x_c : DCore} {R_ : DCore} (hh : F_impl_ticked x_c = some R_) : Fn Try.prog 89 [.agg (B_39 x_c)] (.agg (bo (eI .i64) R_.Regs :: ru39 R_ [])) := by
 unfold F_impl_ticked at hh
 refine Fn.start low_impl_ticked [0] (E := sp 16 [(0, .agg (B_39 x_c))]) (by kernel_rfl) (v := .agg (bo (eI .i64) R_.Regs :: ru39 R_ [])) (Hr := []) (k := 0) (by kernel_rfl) ?_
 refine sy [1, 2] [0, 1] (sp 16 [(1, pp 0), (2, pp 1)]) [(0, some ⟨39, (B_39 x_c)⟩), (1, some ⟨39, (.nil :: zru39 [])⟩)] 2 ?_
 refine Aw.seq ?_
 refine sy [1, 2, 5] [0, 1] (sp 16 [(1, pp 0), (2, pp 1), (5, bb (decide (x_c.Timer = (0 : Int))))]) [(0, some ⟨39, (B_39 x_c)⟩), (1, some ⟨39, (.nil :: zru39 [])⟩)] 2 ?_
 rcases cond_some hh with ⟨hb, hh⟩ | ⟨hb, hh⟩
 · refine cT hb ?_
   refine sy [2] [1] (sp 16 [(2, pp 1)]) [(1, some ⟨39, (B_39 x_c)⟩)] 2 ?_
   refine Aw.ret ?_
   refine then_r ?_
   rw [some_some hh]
   exact gives (r' := .agg (B_39 x_c)) (by kernel_rfl) (Ent.clov (.one _ _ (clo_same (clean_agg (cl_B_39 _)))))
 refine cF hb ?_
 refine Aw.xskip (fun _ _ _ hq => then_m hq) ?_
 refine Aw.sreg [1, 2] [0, 1] ?_
 let q1 : Root := ⟨39, [bo (eI .i64) x_c.Regs, ii x_c.Pc, ii x_c.Root, ii x_c.Vector, ii x_c.Saved, bb x_c.SavedUser, ii x_c.Cause, ii x_c.Bad, ii (w64 (x_c.Timer - (1 : Int))), bb x_c.Waits, bb x_c.User, bb x_c.On, bb x_c.Stopped]⟩
 refine yt (sp 16 [(1, pp 0), (2, pp 1)]) [(0, some q1), (1, some ⟨39, (.nil :: zru39 [])⟩)] 2 ?_
 obtain ⟨j1, hh, hk1⟩ := bind_some hh
 refine Aw.join (S := Bool) (fun s1 => sp 16 [(1, pp 0), (2, pp 1)]) (fun s1 => [(0, some ⟨39, [bo (eI .i64) x_c.Regs, ii x_c.Pc, ii x_c.Root, ii x_c.Vector, ii x_c.Saved, bb x_c.SavedUser, ii x_c.Cause, ii x_c.Bad, ii (w64 (x_c.Timer - (1 : Int))), bb s1, bb x_c.User, bb x_c.On, bb x_c.Stopped]⟩), (1, some ⟨39, (.nil :: zru39 [])⟩)]) 2 (fun s1 => F_impl_ticked_j1 x_c s1 = some R_) ?_ ?_
 · intro s1 hh
   unfold F_impl_ticked_j1 at hh
   refine sy [2] [1] (sp 16 [(2, pp 1)]) [(1, some ⟨39, [bo (eI .i64) x_c.Regs, ii x_c.Pc, ii x_c.Root, ii x_c.Vector, ii x_c.Saved, bb x_c.SavedUser, ii x_c.Cause, ii x_c.Bad, ii (w64 (x_c.Timer - (1 : Int))), bb s1, bb x_c.User, bb x_c.On, bb x_c.Stopped]⟩)] 2 ?_
   refine Aw.ret ?_
   rw [some_some hh]
   exact gives (r' := .agg [bo (eI .i64) x_c.Regs, ii x_c.Pc, ii x_c.Root, ii x_c.Vector, ii x_c.Saved, bb x_c.SavedUser, ii x_c.Cause, ii x_c.Bad, ii (w64 (x_c.Timer - (1 : Int))), bb s1, bb x_c.User, bb x_c.On, bb x_c.Stopped]) (by kernel_rfl) (Ent.clov (.one _ _ (clo_agg (clos_c (clo_same (clean_bor (cleans_fl cl_eI))) (cs1 (cs1 (cs1 (cs1 (cs1 (cs1 (cs1 (cs1 (cs1 (cs1 (cs1 (cs1 clos_n))))))))))))))))
 intro Q1 hN1 hR1 hE1
 refine sy [1, 2, 13] [0, 1] (sp 16 [(1, pp 0), (2, pp 1), (13, bb (decide ((w64 (x_c.Timer - (1 : Int))) = (0 : Int))))]) [(0, some q1), (1, some ⟨39, (.nil :: zru39 [])⟩)] 2 ?_
 rcases cond_some hh with ⟨hb, hh⟩ | ⟨hb, hh⟩
 · refine cT hb ?_
   refine Aw.oreg ?_
   let q2 : Root := ⟨39, [bo (eI .i64) x_c.Regs, ii x_c.Pc, ii x_c.Root, ii x_c.Vector, ii x_c.Saved, bb x_c.SavedUser, ii x_c.Cause, ii x_c.Bad, ii (w64 (x_c.Timer - (1 : Int))), bb true, bb x_c.User, bb x_c.On, bb x_c.Stopped]⟩
   refine ye (sp 16 [(1, pp 0), (2, pp 1), (13, bb (decide ((w64 (x_c.Timer - (1 : Int))) = (0 : Int)))), (14, .ptr 0 [] 9)]) [(0, some q2), (0, some q1), (1, some ⟨39, (.nil :: zru39 [])⟩)] 2 ?_
   obtain rfl := some_some hh
   exact hN1 true _ _ _ hk1 (Ent.list2 [some 0, some 1] rfl rfl (by decide) (rens_sp (by kernel_rfl) (rl_c (u := pp 0) (by kernel_rfl) (ren_p (by decide) rfl) (rl_c (u := pp 1) (by kernel_rfl) (ren_p (by decide) rfl) rl_n))) (hq q2 (rens_c (ren_bor (rens_same (noRefs_fl nr_eI))) (rens_i (rens_i (rens_i (rens_i (rens_b (rens_i (rens_i (rens_i (rens_b (rens_b (rens_b (rens_b rens_n))))))))))))) (hq ⟨39, (.nil :: zru39 [])⟩ (rens_c ren_nil (rens_i (rens_i (rens_i (rens_i (rens_b (rens_i (rens_i (rens_i (rens_b (rens_b (rens_b (rens_b rens_n))))))))))))) hs_nil)))
 refine cF hb ?_
 refine Aw.skip ?_
 obtain rfl := some_some hh
 exact hN1 x_c.Waits _ _ _ hk1 (Ent.list2 [some 0, some 1] rfl rfl (by decide) (rens_sp (by kernel_rfl) (rl_c (u := pp 0) (by kernel_rfl) (ren_p (by decide) rfl) (rl_c (u := pp 1) (by kernel_rfl) (ren_p (by decide) rfl) rl_n))) (hq q1 (rens_c (ren_bor (rens_same (noRefs_fl nr_eI))) (rens_i (rens_i (rens_i (rens_i (rens_b (rens_i (rens_i (rens_i (rens_b (rens_b (rens_b (rens_b rens_n))))))))))))) (hq ⟨39, (.nil :: zru39 [])⟩ (rens_c ren_nil (rens_i (rens_i (rens_i (rens_i (rens_b (rens_i (rens_i (rens_i (rens_b (rens_b (rens_b (rens_b rens_n))))))))))))) hs_nil)))
def Lf90_r0 : List LOper := [oo 4 (.box 39 (.t 0)), oo 8 (.fresh 39 [.nil, (ii 0), (ii 0), (ii 0), (ii 0), (bb false), (ii 0), (ii 0), (ii 0), (bb false), (bb false), (bb false), (bb false)])]
def Lf90_r1 : List LOper := [om 9 3, oo 10 (.fadr 4 (.t 4)), ⟨none, (.store 1 (.t 10) (.t 9)), none⟩]
def Lf90_r2 : List LOper := [oo 11 (.fadr 10 (.t 4)), oo 12 (.load false 1 (.t 11)), oo 13 (.fadr 5 (.t 4)), ⟨none, (.store 1 (.t 13) (.t 12)), none⟩]
def Lf90_r3 : List LOper := [om 14 1, oo 15 (.fadr 6 (.t 4)), ⟨none, (.store 1 (.t 15) (.t 14)), none⟩]
def Lf90_r4 : List LOper := [om 16 2, oo 17 (.fadr 7 (.t 4)), ⟨none, (.store 1 (.t 17) (.t 16)), none⟩]
def Lf90_r5 : List LOper := [oo 18 (.fadr 3 (.t 4)), oo 19 (.load false 1 (.t 18)), oo 20 (.fadr 1 (.t 4)), ⟨none, (.store 1 (.t 20) (.t 19)), none⟩]
def Lf90_r6 : List LOper := [oo 21 (.fadr 10 (.t 4)), ⟨none, (.store 1 (.t 21) (.c (bb false))), none⟩]
def Lf90_r7 : List LOper := [oo 22 (.fadr 11 (.t 4)), ⟨none, (.store 1 (.t 22) (.c (bb false))), none⟩]
def Lf90_r8 : List LOper := [oo 23 (.load true 13 (.t 4)), ⟨none, (.store 13 (.t 8) (.t 23)), none⟩]
def Lf90 : LFun := ⟨24, [(.cell 8 true 13)], (.seq (.reg false Lf90_r0) (.seq (.reg false Lf90_r1) (.seq (.reg false Lf90_r2) (.seq (.reg false Lf90_r3) (.seq (.reg false Lf90_r4) (.seq (.reg false Lf90_r5) (.seq (.reg false Lf90_r6) (.seq (.reg false Lf90_r7) (.seq (.reg false Lf90_r8) .ret)))))))))⟩
theorem low_impl_trapped : lowFun Go.Proofs.Try.prog 90 = some Lf90 := by kernel_rfl
noncomputable def F_impl_trapped (x_c : DCore) (x_cause : Int) (x_bad : Int) (x_saved : Int) : Option DCore :=
 some (DCore.mk x_c.Regs x_c.Vector x_c.Root x_c.Vector x_saved x_c.User x_cause x_bad x_c.Timer x_c.Waits false false x_c.Stopped)
theorem impl_trapped_fn {x_c : DCore} {x_cause : Int} {x_bad : Int} {x_saved : Int} {R_ : DCore} (hh : F_impl_trapped x_c x_cause x_bad x_saved = some R_) : Fn Try.prog 90 [.agg (B_39 x_c), .int .i64 x_cause, .int .i64 x_bad, .int .i64 x_saved] (.agg (bo (eI .i64) R_.Regs :: ru39 R_ [])) := by
 unfold F_impl_trapped at hh
 refine Fn.start low_impl_trapped [0, 1, 2, 3] (E := sp 24 [(0, .agg (B_39 x_c)), (1, ii x_cause), (2, ii x_bad), (3, ii x_saved)]) (by kernel_rfl) (v := .agg (bo (eI .i64) R_.Regs :: ru39 R_ [])) (Hr := []) (k := 0) (by kernel_rfl) ?_
 refine sy [1, 2, 3, 4, 8] [0, 1] (sp 24 [(1, ii x_cause), (2, ii x_bad), (3, ii x_saved), (4, pp 0), (8, pp 1)]) [(0, some ⟨39, (B_39 x_c)⟩), (1, some ⟨39, (.nil :: zru39 [])⟩)] 2 ?_
 refine sy [1, 2, 4, 8] [0, 1] (sp 24 [(1, ii x_cause), (2, ii x_bad), (4, pp 0), (8, pp 1)]) [(0, some ⟨39, [bo (eI .i64) x_c.Regs, ii x_c.Pc, ii x_c.Root, ii x_c.Vector, ii x_saved, bb x_c.SavedUser, ii x_c.Cause, ii x_c.Bad, ii x_c.Timer, bb x_c.Waits, bb x_c.User, bb x_c.On, bb x_c.Stopped]⟩), (1, some ⟨39, (.nil :: zru39 [])⟩)] 2 ?_
 refine sy [1, 2, 4, 8] [0, 1] (sp 24 [(1, ii x_cause), (2, ii x_bad), (4, pp 0), (8, pp 1)]) [(0, some ⟨39, [bo (eI .i64) x_c.Regs, ii x_c.Pc, ii x_c.Root, ii x_c.Vector, ii x_saved, bb x_c.User, ii x_c.Cause, ii x_c.Bad, ii x_c.Timer, bb x_c.Waits, bb x_c.User, bb x_c.On, bb x_c.Stopped]⟩), (1, some ⟨39, (.nil :: zru39 [])⟩)] 2 ?_
 refine sy [2, 4, 8] [0, 1] (sp 24 [(2, ii x_bad), (4, pp 0), (8, pp 1)]) [(0, some ⟨39, [bo (eI .i64) x_c.Regs, ii x_c.Pc, ii x_c.Root, ii x_c.Vector, ii x_saved, bb x_c.User, ii x_cause, ii x_c.Bad, ii x_c.Timer, bb x_c.Waits, bb x_c.User, bb x_c.On, bb x_c.Stopped]⟩), (1, some ⟨39, (.nil :: zru39 [])⟩)] 2 ?_
 refine sy [4, 8] [0, 1] (sp 24 [(4, pp 0), (8, pp 1)]) [(0, some ⟨39, [bo (eI .i64) x_c.Regs, ii x_c.Pc, ii x_c.Root, ii x_c.Vector, ii x_saved, bb x_c.User, ii x_cause, ii x_bad, ii x_c.Timer, bb x_c.Waits, bb x_c.User, bb x_c.On, bb x_c.Stopped]⟩), (1, some ⟨39, (.nil :: zru39 [])⟩)] 2 ?_
 refine sy [4, 8] [0, 1] (sp 24 [(4, pp 0), (8, pp 1)]) [(0, some ⟨39, [bo (eI .i64) x_c.Regs, ii x_c.Vector, ii x_c.Root, ii x_c.Vector, ii x_saved, bb x_c.User, ii x_cause, ii x_bad, ii x_c.Timer, bb x_c.Waits, bb x_c.User, bb x_c.On, bb x_c.Stopped]⟩), (1, some ⟨39, (.nil :: zru39 [])⟩)] 2 ?_
 refine sy [4, 8] [0, 1] (sp 24 [(4, pp 0), (8, pp 1)]) [(0, some ⟨39, [bo (eI .i64) x_c.Regs, ii x_c.Vector, ii x_c.Root, ii x_c.Vector, ii x_saved, bb x_c.User, ii x_cause, ii x_bad, ii x_c.Timer, bb x_c.Waits, bb false, bb x_c.On, bb x_c.Stopped]⟩), (1, some ⟨39, (.nil :: zru39 [])⟩)] 2 ?_
 refine Aw.sreg [4, 8] [0, 1] ?_
 let q1 : Root := ⟨39, [bo (eI .i64) x_c.Regs, ii x_c.Vector, ii x_c.Root, ii x_c.Vector, ii x_saved, bb x_c.User, ii x_cause, ii x_bad, ii x_c.Timer, bb x_c.Waits, bb false, bb false, bb x_c.Stopped]⟩
 refine yt (sp 24 [(4, pp 0), (8, pp 1)]) [(0, some q1), (1, some ⟨39, (.nil :: zru39 [])⟩)] 2 ?_
 refine sy [8] [1] (sp 24 [(8, pp 1)]) [(1, some q1)] 2 ?_
 refine Aw.ret ?_
 rw [some_some hh]
 exact gives (r' := .agg [bo (eI .i64) x_c.Regs, ii x_c.Vector, ii x_c.Root, ii x_c.Vector, ii x_saved, bb x_c.User, ii x_cause, ii x_bad, ii x_c.Timer, bb x_c.Waits, bb false, bb false, bb x_c.Stopped]) (by kernel_rfl) (Ent.clov (.one _ _ (clo_agg (clos_c (clo_same (clean_bor (cleans_fl cl_eI))) (cs1 (cs1 (cs1 (cs1 (cs1 (cs1 (cs1 (cs1 (cs1 (cs1 (cs1 (cs1 clos_n))))))))))))))))
def Lf91_r0 : List LOper := [oo 2 (.box 43 (.t 0)), oo 4 (.fresh 43 [.nil, (ii 0), (ii 0), (ii 0), (ii 0), (bb false), (ii 0), (ii 0), (ii 0), (bb false), (bb false), (bb false), (bb false), .nil, .nil, .nil])]
def Lf91_r1 : List LOper := [oo 5 (.fadr 0 (.t 2)), oo 6 (.load true 13 (.t 5)), om 7 1, oo 8 (.fadr 0 (.t 2)), oo 9 (.fadr 1 (.t 8)), oo 10 (.load false 1 (.t 9)), oo 11 (.call 90 [(.t 6), (.c (ii 2)), (.t 7), (.t 10)]), oo 12 (.fadr 0 (.t 2)), ⟨none, (.store 13 (.t 12) (.t 11)), none⟩]
def Lf91_r2 : List LOper := [oo 13 (.load true 16 (.t 2)), ⟨none, (.store 16 (.t 4) (.t 13)), none⟩]
def Lf91 : LFun := ⟨14, [(.cell 4 true 16)], (.seq (.reg false Lf91_r0) (.seq (.reg false Lf91_r1) (.seq (.reg false Lf91_r2) .ret)))⟩
theorem low_impl_faulted : lowFun Go.Proofs.Try.prog 91 = some Lf91 := by kernel_rfl
noncomputable def F_impl_faulted (x_b : DBare) (x_addr : Int) : Option DBare :=
 Option.bind (F_impl_trapped x_b.C (2 : Int) x_addr x_b.C.Pc) fun v1 =>
 some (DBare.mk v1 x_b.Mem x_b.In x_b.Out)
theorem impl_faulted_fn {x_b : DBare} {x_addr : Int} {R_ : DBare} (hh : F_impl_faulted x_b x_addr = some R_) : Fn Try.prog 91 [.agg (B_43 x_b), .int .i64 x_addr] (.agg (bo (eI .i64) R_.C.Regs :: ru39 R_.C [bo (eI .i64) R_.Mem, bo (eI .i64) R_.In, bo (eI .i64) R_.Out])) := by
 unfold F_impl_faulted at hh
 refine Fn.start low_impl_faulted [0, 1] (E := sp 14 [(0, .agg (B_43 x_b)), (1, ii x_addr)]) (by kernel_rfl) (v := .agg (bo (eI .i64) R_.C.Regs :: ru39 R_.C [bo (eI .i64) R_.Mem, bo (eI .i64) R_.In, bo (eI .i64) R_.Out])) (Hr := []) (k := 0) (by kernel_rfl) ?_
 refine Aw.sreg [1, 2, 4] [0, 1] ?_
 let q1 : Root := ⟨43, (.nil :: zru39 [.nil, .nil, .nil])⟩
 refine yt (sp 14 [(1, ii x_addr), (2, pp 0), (4, pp 1)]) [(0, some ⟨43, (B_43 x_b)⟩), (1, some q1)] 2 ?_
 refine Aw.sreg [2, 4] [0, 1] (yu 6 [(5, pp 0), (6, .agg (B_39 x_b.C)), (7, ii x_addr), (8, pp 0), (9, .ptr 0 [] 1), (10, ii x_b.C.Pc)] [(0, some ⟨43, (B_43 x_b)⟩), (1, some q1)] 2 ?_)
 obtain ⟨v1, hv1, hh⟩ := bind_some hh
 refine ys (.call 90 [(.t 6), (.c (ii 2)), (.t 7), (.t 10)]) (some 11) (op_callp (r := .agg (B_39 v1)) (v := .agg (B_39 v1)) (Hr := []) (n' := 2) (impl_trapped_fn hv1) (clz_v (vs := [.agg (B_39 x_b.C), ii 2, ii x_addr, ii x_b.C.Pc]) (by kernel_rfl) (clz_c (clo_same (clean_agg (cl_B_39 _))) (cz1 (cz1 (cz1 clz_n))))) (by simp only [AV.noRef, noRefs, Bool.and_self, noRefs_fl nr_eI, nr_B_39]) (by kernel_rfl) ?_)
 let q2 : Root := ⟨43, (bo (eI .i64) v1.Regs :: ru39 v1 [bo (eI .i64) x_b.Mem, bo (eI .i64) x_b.In, bo (eI .i64) x_b.Out])⟩
 refine yt (sp 14 [(2, pp 0), (4, pp 1)]) [(0, some q2), (1, some q1)] 2 ?_
 refine sy [4] [1] (sp 14 [(4, pp 1)]) [(1, some q2)] 2 ?_
 refine Aw.ret ?_
 rw [some_some hh]
 exact gives (r' := .agg (bo (eI .i64) v1.Regs :: ru39 v1 [bo (eI .i64) x_b.Mem, bo (eI .i64) x_b.In, bo (eI .i64) x_b.Out])) (by kernel_rfl) (Ent.clov (.one _ _ (clo_agg (clos_c (clo_same (clean_bor (cleans_fl cl_eI))) (cs1 (cs1 (cs1 (cs1 (cs1 (cs1 (cs1 (cs1 (cs1 (cs1 (cs1 (cs1 (clos_c (clo_same (clean_bor (cleans_fl cl_eI))) (clos_c (clo_same (clean_bor (cleans_fl cl_eI))) (clos_c (clo_same (clean_bor (cleans_fl cl_eI))) clos_n)))))))))))))))))))
def Lf98_r0 : List LOper := [oo 1 (.box 76 (.t 0)), oo 2 (.mv (.c (bb false)))]
def Lf98_r1 : List LOper := [oo 6 (.fadr 0 (.t 1)), oo 7 (.load false 1 (.t 6)), oo 8 (.bin .leq (.c (ii 0)) (.t 7)), om 9 8, ⟨(some 10), (.fadr 0 (.t 1)), (some (9, true))⟩, ⟨(some 11), (.load false 1 (.t 10)), (some (9, true))⟩, ⟨(some 12), (.bin .leq (.t 11) (.c (ii 15))), (some (9, true))⟩, oo 13 (.pick (.t 9) (.t 12) (.c (bb false))), om 3 13]
def Lf98_r2 : List LOper := [oo 14 (.fadr 1 (.t 1)), oo 15 (.load false 1 (.t 14)), oo 16 (.bin .leq (.c (ii 0)) (.t 15)), om 17 16, ⟨(some 18), (.fadr 1 (.t 1)), (some (17, true))⟩, ⟨(some 19), (.load false 1 (.t 18)), (some (17, true))⟩, ⟨(some 20), (.bin .lss (.t 19) (.c (ii 4))), (some (17, true))⟩, oo 21 (.pick (.t 17) (.t 20) (.c (bb false))), om 4 21]
def Lf98_r3 : List LOper := [oo 22 (.fadr 2 (.t 1)), oo 23 (.load false 1 (.t 22)), oo 24 (.bin .leq (.c (ii 0)) (.t 23)), om 25 24, ⟨(some 26), (.fadr 2 (.t 1)), (some (25, true))⟩, ⟨(some 27), (.load false 1 (.t 26)), (some (25, true))⟩, ⟨(some 28), (.bin .lss (.t 27) (.c (ii 64))), (some (25, true))⟩, oo 29 (.pick (.t 25) (.t 28) (.c (bb false))), om 5 29]
def Lf98_r4 : List LOper := [om 30 3, om 31 30, ⟨(some 32), (.mv (.t 4)), (some (31, true))⟩, oo 33 (.pick (.t 31) (.t 32) (.c (bb false))), om 34 33, ⟨(some 35), (.mv (.t 5)), (some (34, true))⟩, oo 36 (.pick (.t 34) (.t 35) (.c (bb false))), om 2 36]
def Lf98 : LFun := ⟨37, [(.tmp 2)], (.seq (.reg false Lf98_r0) (.seq (.reg false Lf98_r1) (.seq (.reg false Lf98_r2) (.seq (.reg false Lf98_r3) (.seq (.reg false Lf98_r4) .ret)))))⟩
theorem low_impl_InsOk : lowFun Go.Proofs.Try.prog 98 = some Lf98 := by kernel_rfl
noncomputable def F_impl_InsOk (x_i : DIns) : Option Bool :=
 cond (decide ((0 : Int) ≤ x_i.Op))
  (cond (decide ((0 : Int) ≤ x_i.A))
   (cond (decide ((0 : Int) ≤ x_i.N))
    (cond (decide (x_i.Op ≤ (15 : Int)))
     (cond (decide (x_i.A < (4 : Int)))
      (some (decide (x_i.N < (64 : Int))))
      (some false))
     (some false))
    (cond (decide (x_i.Op ≤ (15 : Int)))
     (cond (decide (x_i.A < (4 : Int)))
      (some false)
      (some false))
     (some false)))
   (cond (decide ((0 : Int) ≤ x_i.N))
    (cond (decide (x_i.Op ≤ (15 : Int)))
     (some false)
     (some false))
    (cond (decide (x_i.Op ≤ (15 : Int)))
     (some false)
     (some false))))
  (cond (decide ((0 : Int) ≤ x_i.A))
   (cond (decide ((0 : Int) ≤ x_i.N))
    (some false)
    (some false))
   (cond (decide ((0 : Int) ≤ x_i.N))
    (some false)
    (some false)))
theorem impl_InsOk_fn {x_i : DIns} {R_ : Bool} (hh : F_impl_InsOk x_i = some R_) : Fn Try.prog 98 [.agg (C_76 x_i)] (.bool R_) := by
 unfold F_impl_InsOk at hh
 refine Fn.start low_impl_InsOk [0] (E := sp 37 [(0, .agg (C_76 x_i))]) (by kernel_rfl) (v := bb R_) (Hr := []) (k := 0) (by kernel_rfl) ?_
 refine sy [1] [0] (sp 37 [(1, pp 0)]) [(0, some ⟨76, (C_76 x_i)⟩)] 1 ?_
 refine Aw.sreg [1, 3] [0] (yu 4 [(6, pp 0), (7, ii x_i.Op), (8, bb (decide ((0 : Int) ≤ x_i.Op))), (9, bb (decide ((0 : Int) ≤ x_i.Op)))] [(0, some ⟨76, (C_76 x_i)⟩)] 1 ?_)
 rcases cond_some hh with ⟨hb, hh⟩ | ⟨hb, hh⟩
 · refine yb 8 hb ?_
   refine yb 9 hb ?_
   refine yt (sp 37 [(1, pp 0), (3, bb (decide (x_i.Op ≤ (15 : Int))))]) [(0, some ⟨76, (C_76 x_i)⟩)] 1 ?_
   refine Aw.sreg [1, 3, 4] [0] (yu 4 [(14, .ptr 0 [] 1), (15, ii x_i.A), (16, bb (decide ((0 : Int) ≤ x_i.A))), (17, bb (decide ((0 : Int) ≤ x_i.A)))] [(0, some ⟨76, (C_76 x_i)⟩)] 1 ?_)
   rcases cond_some hh with ⟨hb, hh⟩ | ⟨hb, hh⟩
   · refine yb 16 hb ?_
     refine yb 17 hb ?_
     refine yt (sp 37 [(1, pp 0), (3, bb (decide (x_i.Op ≤ (15 : Int)))), (4, bb (decide (x_i.A < (4 : Int))))]) [(0, some ⟨76, (C_76 x_i)⟩)] 1 ?_
     refine Aw.sreg [3, 4, 5] [] (yu 4 [(22, .ptr 0 [] 2), (23, ii x_i.N), (24, bb (decide ((0 : Int) ≤ x_i.N))), (25, bb (decide ((0 : Int) ≤ x_i.N)))] [(0, some ⟨76, (C_76 x_i)⟩)] 1 ?_)
     rcases cond_some hh with ⟨hb, hh⟩ | ⟨hb, hh⟩
     · refine yb 24 hb ?_
       refine yb 25 hb ?_
       refine yt (sp 37 [(3, bb (decide (x_i.Op ≤ (15 : Int)))), (4, bb (decide (x_i.A < (4 : Int)))), (5, bb (decide (x_i.N < (64 : Int))))]) [] 1 ?_
       refine Aw.sreg [2] [] (yu 2 [(30, bb (decide (x_i.Op ≤ (15 : Int)))), (31, bb (decide (x_i.Op ≤ (15 : Int))))] [] 1 ?_)
       rcases cond_some hh with ⟨hb, hh⟩ | ⟨hb, hh⟩
       · refine yb 3 hb ?_
         refine yb 30 hb ?_
         refine yb 31 hb ?_
         refine yu 3 [(3, bb true), (30, bb true), (31, bb true), (32, bb (decide (x_i.A < (4 : Int)))), (33, bb (decide (x_i.A < (4 : Int)))), (34, bb (decide (x_i.A < (4 : Int))))] [] 1 ?_
         rcases cond_some hh with ⟨hb, hh⟩ | ⟨hb, hh⟩
         · refine yb 4 hb ?_
           refine yb 32 hb ?_
           refine yb 33 hb ?_
           refine yb 34 hb ?_
           refine yt (sp 37 [(2, bb (decide (x_i.N < (64 : Int))))]) [] 1 ?_
           refine Aw.ret ?_
           rw [some_some hh]
           exact gvb
         refine yb 4 hb ?_
         refine yb 32 hb ?_
         refine yb 33 hb ?_
         refine yb 34 hb ?_
         refine yt (sp 37 [(2, bb false)]) [] 1 ?_
         refine Aw.ret ?_
         rw [some_some hh]
         exact gvb
       refine yb 3 hb ?_
       refine yb 30 hb ?_
       refine yb 31 hb ?_
       refine yt (sp 37 [(2, bb false)]) [] 1 ?_
       refine Aw.ret ?_
       rw [some_some hh]
       exact gvb
     refine yb 24 hb ?_
     refine yb 25 hb ?_
     refine yt (sp 37 [(3, bb (decide (x_i.Op ≤ (15 : Int)))), (4, bb (decide (x_i.A < (4 : Int)))), (5, bb false)]) [] 1 ?_
     refine Aw.sreg [2] [] (yu 2 [(30, bb (decide (x_i.Op ≤ (15 : Int)))), (31, bb (decide (x_i.Op ≤ (15 : Int))))] [] 1 ?_)
     rcases cond_some hh with ⟨hb, hh⟩ | ⟨hb, hh⟩
     · refine yb 3 hb ?_
       refine yb 30 hb ?_
       refine yb 31 hb ?_
       refine yu 3 [(3, bb true), (30, bb true), (31, bb true), (32, bb (decide (x_i.A < (4 : Int)))), (33, bb (decide (x_i.A < (4 : Int)))), (34, bb (decide (x_i.A < (4 : Int))))] [] 1 ?_
       rcases cond_some hh with ⟨hb, hh⟩ | ⟨hb, hh⟩
       · refine yb 4 hb ?_
         refine yb 32 hb ?_
         refine yb 33 hb ?_
         refine yb 34 hb ?_
         refine yt (sp 37 [(2, bb false)]) [] 1 ?_
         refine Aw.ret ?_
         rw [some_some hh]
         exact gvb
       refine yb 4 hb ?_
       refine yb 32 hb ?_
       refine yb 33 hb ?_
       refine yb 34 hb ?_
       refine yt (sp 37 [(2, bb false)]) [] 1 ?_
       refine Aw.ret ?_
       rw [some_some hh]
       exact gvb
     refine yb 3 hb ?_
     refine yb 30 hb ?_
     refine yb 31 hb ?_
     refine yt (sp 37 [(2, bb false)]) [] 1 ?_
     refine Aw.ret ?_
     rw [some_some hh]
     exact gvb
   refine yb 16 hb ?_
   refine yb 17 hb ?_
   refine yt (sp 37 [(1, pp 0), (3, bb (decide (x_i.Op ≤ (15 : Int)))), (4, bb false)]) [(0, some ⟨76, (C_76 x_i)⟩)] 1 ?_
   refine Aw.sreg [3, 4, 5] [] (yu 4 [(22, .ptr 0 [] 2), (23, ii x_i.N), (24, bb (decide ((0 : Int) ≤ x_i.N))), (25, bb (decide ((0 : Int) ≤ x_i.N)))] [(0, some ⟨76, (C_76 x_i)⟩)] 1 ?_)
   rcases cond_some hh with ⟨hb, hh⟩ | ⟨hb, hh⟩
   · refine yb 24 hb ?_
     refine yb 25 hb ?_
     refine yt (sp 37 [(3, bb (decide (x_i.Op ≤ (15 : Int)))), (4, bb false), (5, bb (decide (x_i.N < (64 : Int))))]) [] 1 ?_
     refine Aw.sreg [2] [] (yu 2 [(30, bb (decide (x_i.Op ≤ (15 : Int)))), (31, bb (decide (x_i.Op ≤ (15 : Int))))] [] 1 ?_)
     rcases cond_some hh with ⟨hb, hh⟩ | ⟨hb, hh⟩
     · refine yb 3 hb ?_
       refine yb 30 hb ?_
       refine yb 31 hb ?_
       refine yt (sp 37 [(2, bb false)]) [] 1 ?_
       refine Aw.ret ?_
       rw [some_some hh]
       exact gvb
     refine yb 3 hb ?_
     refine yb 30 hb ?_
     refine yb 31 hb ?_
     refine yt (sp 37 [(2, bb false)]) [] 1 ?_
     refine Aw.ret ?_
     rw [some_some hh]
     exact gvb
   refine yb 24 hb ?_
   refine yb 25 hb ?_
   refine yt (sp 37 [(3, bb (decide (x_i.Op ≤ (15 : Int)))), (4, bb false), (5, bb false)]) [] 1 ?_
   refine Aw.sreg [2] [] (yu 2 [(30, bb (decide (x_i.Op ≤ (15 : Int)))), (31, bb (decide (x_i.Op ≤ (15 : Int))))] [] 1 ?_)
   rcases cond_some hh with ⟨hb, hh⟩ | ⟨hb, hh⟩
   · refine yb 3 hb ?_
     refine yb 30 hb ?_
     refine yb 31 hb ?_
     refine yt (sp 37 [(2, bb false)]) [] 1 ?_
     refine Aw.ret ?_
     rw [some_some hh]
     exact gvb
   refine yb 3 hb ?_
   refine yb 30 hb ?_
   refine yb 31 hb ?_
   refine yt (sp 37 [(2, bb false)]) [] 1 ?_
   refine Aw.ret ?_
   rw [some_some hh]
   exact gvb
 refine yb 8 hb ?_
 refine yb 9 hb ?_
 refine yt (sp 37 [(1, pp 0), (3, bb false)]) [(0, some ⟨76, (C_76 x_i)⟩)] 1 ?_
 refine Aw.sreg [1, 3, 4] [0] (yu 4 [(14, .ptr 0 [] 1), (15, ii x_i.A), (16, bb (decide ((0 : Int) ≤ x_i.A))), (17, bb (decide ((0 : Int) ≤ x_i.A)))] [(0, some ⟨76, (C_76 x_i)⟩)] 1 ?_)
 rcases cond_some hh with ⟨hb, hh⟩ | ⟨hb, hh⟩
 · refine yb 16 hb ?_
   refine yb 17 hb ?_
   refine yt (sp 37 [(1, pp 0), (3, bb false), (4, bb (decide (x_i.A < (4 : Int))))]) [(0, some ⟨76, (C_76 x_i)⟩)] 1 ?_
   refine Aw.sreg [3, 4, 5] [] (yu 4 [(22, .ptr 0 [] 2), (23, ii x_i.N), (24, bb (decide ((0 : Int) ≤ x_i.N))), (25, bb (decide ((0 : Int) ≤ x_i.N)))] [(0, some ⟨76, (C_76 x_i)⟩)] 1 ?_)
   rcases cond_some hh with ⟨hb, hh⟩ | ⟨hb, hh⟩
   · refine yb 24 hb ?_
     refine yb 25 hb ?_
     refine yt (sp 37 [(3, bb false), (4, bb (decide (x_i.A < (4 : Int)))), (5, bb (decide (x_i.N < (64 : Int))))]) [] 1 ?_
     refine sy [2] [] (sp 37 [(2, bb false)]) [] 1 ?_
     refine Aw.ret ?_
     rw [some_some hh]
     exact gvb
   refine yb 24 hb ?_
   refine yb 25 hb ?_
   refine yt (sp 37 [(3, bb false), (4, bb (decide (x_i.A < (4 : Int)))), (5, bb false)]) [] 1 ?_
   refine sy [2] [] (sp 37 [(2, bb false)]) [] 1 ?_
   refine Aw.ret ?_
   rw [some_some hh]
   exact gvb
 refine yb 16 hb ?_
 refine yb 17 hb ?_
 refine yt (sp 37 [(1, pp 0), (3, bb false), (4, bb false)]) [(0, some ⟨76, (C_76 x_i)⟩)] 1 ?_
 refine Aw.sreg [3, 4, 5] [] (yu 4 [(22, .ptr 0 [] 2), (23, ii x_i.N), (24, bb (decide ((0 : Int) ≤ x_i.N))), (25, bb (decide ((0 : Int) ≤ x_i.N)))] [(0, some ⟨76, (C_76 x_i)⟩)] 1 ?_)
 rcases cond_some hh with ⟨hb, hh⟩ | ⟨hb, hh⟩
 · refine yb 24 hb ?_
   refine yb 25 hb ?_
   refine yt (sp 37 [(3, bb false), (4, bb false), (5, bb (decide (x_i.N < (64 : Int))))]) [] 1 ?_
   refine sy [2] [] (sp 37 [(2, bb false)]) [] 1 ?_
   refine Aw.ret ?_
   rw [some_some hh]
   exact gvb
 refine yb 24 hb ?_
 refine yb 25 hb ?_
 refine yt (sp 37 [(3, bb false), (4, bb false), (5, bb false)]) [] 1 ?_
 refine sy [2] [] (sp 37 [(2, bb false)]) [] 1 ?_
 refine Aw.ret ?_
 rw [some_some hh]
 exact gvb
def Lf95_r0 : List LOper := [oo 1 (.box 76 (.t 0)), oo 2 (.mv (.c (bb false)))]
def Lf95_r1 : List LOper := [oo 3 (.load true 3 (.t 1)), oo 4 (.call 98 [(.t 3)]), oo 5 (.un .not (.t 4))]
def Lf95_r2 : List LOper := [oo 2 (.mv (.c (bb false)))]
def Lf95_r3 : List LOper := [oo 6 (.fadr 0 (.t 1)), oo 7 (.load false 1 (.t 6))]
def Lf95_r4 : List LOper := [oo 9 (.bin .eql (.t 7) (.c (ii 0))), om 8 9]
def Lf95_r5 : List LOper := [oo 10 (.bin .eql (.t 7) (.c (ii 8))), om 8 10]
def Lf95_r6 : List LOper := [oo 11 (.bin .eql (.t 7) (.c (ii 9))), om 8 11]
def Lf95_r7 : List LOper := [oo 12 (.bin .eql (.t 7) (.c (ii 10))), om 8 12]
def Lf95_r8 : List LOper := [oo 13 (.bin .eql (.t 7) (.c (ii 11))), om 8 13]
def Lf95_r9 : List LOper := [oo 14 (.bin .eql (.t 7) (.c (ii 12))), om 8 14]
def Lf95_r10 : List LOper := [oo 15 (.bin .eql (.t 7) (.c (ii 13))), om 8 15]
def Lf95_r11 : List LOper := [oo 16 (.bin .eql (.t 7) (.c (ii 14))), om 8 16]
def Lf95_r12 : List LOper := [oo 2 (.mv (.c (bb true)))]
def Lf95_r13 : List LOper := [oo 2 (.mv (.c (bb false)))]
def Lf95 : LFun := ⟨17, [(.tmp 2)], (.seq (.reg false Lf95_r0) (.seq (.seq (.reg false Lf95_r1) (.cond (.t 5) (.seq (.reg false Lf95_r2) .ret) .skip)) (.seq (.seq (.reg false Lf95_r3) (.block 0 (.seq (.seq (.reg false Lf95_r4) (.cond (.t 8) .skip (.seq (.reg false Lf95_r5) (.cond (.t 8) .skip (.seq (.reg false Lf95_r6) (.cond (.t 8) .skip (.seq (.reg false Lf95_r7) (.cond (.t 8) .skip (.seq (.reg false Lf95_r8) (.cond (.t 8) .skip (.seq (.reg false Lf95_r9) (.cond (.t 8) .skip (.seq (.reg false Lf95_r10) (.cond (.t 8) .skip (.reg false Lf95_r11))))))))))))))) (.cond (.t 8) (.seq (.reg false Lf95_r12) .ret) .skip)))) (.seq (.reg false Lf95_r13) .ret))))⟩
theorem low_impl_InsKernel : lowFun Go.Proofs.Try.prog 95 = some Lf95 := by kernel_rfl
noncomputable def F_impl_InsKernel_j2  (s2 : Bool) : Option Bool :=
 cond s2
  (some true)
  (some false)
noncomputable def F_impl_InsKernel (x_i : DIns) : Option Bool :=
 Option.bind (F_impl_InsOk x_i) fun v1 =>
 cond (!v1)
  (some false)
  (Option.bind (cond (decide (x_i.Op = (0 : Int)))
   (some (.go (decide (x_i.Op = (0 : Int)))))
   (cond (decide (x_i.Op = (8 : Int)))
    (some (.go (decide (x_i.Op = (8 : Int)))))
    (cond (decide (x_i.Op = (9 : Int)))
     (some (.go (decide (x_i.Op = (9 : Int)))))
     (cond (decide (x_i.Op = (10 : Int)))
      (some (.go (decide (x_i.Op = (10 : Int)))))
      (cond (decide (x_i.Op = (11 : Int)))
       (some (.go (decide (x_i.Op = (11 : Int)))))
       (cond (decide (x_i.Op = (12 : Int)))
        (some (.go (decide (x_i.Op = (12 : Int)))))
        (cond (decide (x_i.Op = (13 : Int)))
         (some (.go (decide (x_i.Op = (13 : Int)))))
         (some (.go (decide (x_i.Op = (14 : Int)))))))))))) fun j2 =>
   JO.run j2 (F_impl_InsKernel_j2))
theorem impl_InsKernel_fn {x_i : DIns} {R_ : Bool} (hh : F_impl_InsKernel x_i = some R_) : Fn Try.prog 95 [.agg (C_76 x_i)] (.bool R_) := by
 unfold F_impl_InsKernel at hh
 refine Fn.start low_impl_InsKernel [0] (E := sp 17 [(0, .agg (C_76 x_i))]) (by kernel_rfl) (v := bb R_) (Hr := []) (k := 0) (by kernel_rfl) ?_
 refine sy [1] [0] (sp 17 [(1, pp 0)]) [(0, some ⟨76, (C_76 x_i)⟩)] 1 ?_
 refine Aw.seq ?_
 refine Aw.sreg [1, 5] [0] (yj 1  (sp 17 [(1, pp 0), (3, .agg (C_76 x_i))]) [(0, some ⟨76, (C_76 x_i)⟩)] 1 ?_)
 obtain ⟨v1, hv1, hh⟩ := bind_some hh
 refine ys (.call 98 [(.t 3)]) (some 4) (oc (impl_InsOk_fn hv1) ?_)
 refine yt (sp 17 [(1, pp 0), (5, bb (!v1))]) [(0, some ⟨76, (C_76 x_i)⟩)] 1 ?_
 rcases cond_some hh with ⟨hb, hh⟩ | ⟨hb, hh⟩
 · refine cT hb ?_
   refine sy [2] [] (sp 17 [(2, bb false)]) [] 1 ?_
   refine Aw.ret ?_
   refine then_r ?_
   rw [some_some hh]
   exact gvb
 refine cF hb ?_
 refine Aw.xskip (fun _ _ _ hq => then_m hq) ?_
 refine Aw.seq ?_
 refine sy [7] [] (sp 17 [(7, ii x_i.Op)]) [] 1 ?_
 refine Aw.block ?_
 obtain ⟨j2, hh, hk2⟩ := bind_some hh
 refine Aw.join (S := Bool) (fun s2 => sp 17 [(8, bb s2)]) (fun s2 => []) 0 (fun s2 => F_impl_InsKernel_j2 s2 = some R_) ?_ ?_
 · intro s2 hh
   unfold F_impl_InsKernel_j2 at hh
   rcases cond_some hh with ⟨hb, hh⟩ | ⟨hb, hh⟩
   · refine cT hb ?_
     refine sy [2] [] (sp 17 [(2, bb true)]) [] 0 ?_
     refine Aw.ret ?_
     refine blk_r (then_r ?_)
     rw [some_some hh]
     exact gvb
   refine cF hb ?_
   refine Aw.xskip (fun _ _ _ hq => blk_m (then_m hq)) ?_
   refine sy [2] [] (sp 17 [(2, bb false)]) [] 0 ?_
   refine Aw.ret ?_
   rw [some_some hh]
   exact gvb
 intro Q2 hN2 hR2 hE2
 refine sy [7, 8] [] (sp 17 [(7, ii x_i.Op), (8, bb (decide (x_i.Op = (0 : Int))))]) [] 1 ?_
 rcases cond_some hh with ⟨hb, hh⟩ | ⟨hb, hh⟩
 · refine cT hb ?_
   refine Aw.skip ?_
   obtain rfl := some_some hh
   exact hN2 (decide (x_i.Op = (0 : Int))) _ _ _ hk2 (Ent.list2 [] rfl rfl (by decide) (rens_sp (by kernel_rfl) (rl_c (u := bb (decide (x_i.Op = (0 : Int)))) (by kernel_rfl) ren_b rl_n)) hs_nil)
 refine cF hb ?_
 refine sy [7, 8] [] (sp 17 [(7, ii x_i.Op), (8, bb (decide (x_i.Op = (8 : Int))))]) [] 1 ?_
 rcases cond_some hh with ⟨hb, hh⟩ | ⟨hb, hh⟩
 · refine cT hb ?_
   refine Aw.skip ?_
   obtain rfl := some_some hh
   exact hN2 (decide (x_i.Op = (8 : Int))) _ _ _ hk2 (Ent.list2 [] rfl rfl (by decide) (rens_sp (by kernel_rfl) (rl_c (u := bb (decide (x_i.Op = (8 : Int)))) (by kernel_rfl) ren_b rl_n)) hs_nil)
 refine cF hb ?_
 refine sy [7, 8] [] (sp 17 [(7, ii x_i.Op), (8, bb (decide (x_i.Op = (9 : Int))))]) [] 1 ?_
 rcases cond_some hh with ⟨hb, hh⟩ | ⟨hb, hh⟩
 · refine cT hb ?_
   refine Aw.skip ?_
   obtain rfl := some_some hh
   exact hN2 (decide (x_i.Op = (9 : Int))) _ _ _ hk2 (Ent.list2 [] rfl rfl (by decide) (rens_sp (by kernel_rfl) (rl_c (u := bb (decide (x_i.Op = (9 : Int)))) (by kernel_rfl) ren_b rl_n)) hs_nil)
 refine cF hb ?_
 refine sy [7, 8] [] (sp 17 [(7, ii x_i.Op), (8, bb (decide (x_i.Op = (10 : Int))))]) [] 1 ?_
 rcases cond_some hh with ⟨hb, hh⟩ | ⟨hb, hh⟩
 · refine cT hb ?_
   refine Aw.skip ?_
   obtain rfl := some_some hh
   exact hN2 (decide (x_i.Op = (10 : Int))) _ _ _ hk2 (Ent.list2 [] rfl rfl (by decide) (rens_sp (by kernel_rfl) (rl_c (u := bb (decide (x_i.Op = (10 : Int)))) (by kernel_rfl) ren_b rl_n)) hs_nil)
 refine cF hb ?_
 refine sy [7, 8] [] (sp 17 [(7, ii x_i.Op), (8, bb (decide (x_i.Op = (11 : Int))))]) [] 1 ?_
 rcases cond_some hh with ⟨hb, hh⟩ | ⟨hb, hh⟩
 · refine cT hb ?_
   refine Aw.skip ?_
   obtain rfl := some_some hh
   exact hN2 (decide (x_i.Op = (11 : Int))) _ _ _ hk2 (Ent.list2 [] rfl rfl (by decide) (rens_sp (by kernel_rfl) (rl_c (u := bb (decide (x_i.Op = (11 : Int)))) (by kernel_rfl) ren_b rl_n)) hs_nil)
 refine cF hb ?_
 refine sy [7, 8] [] (sp 17 [(7, ii x_i.Op), (8, bb (decide (x_i.Op = (12 : Int))))]) [] 1 ?_
 rcases cond_some hh with ⟨hb, hh⟩ | ⟨hb, hh⟩
 · refine cT hb ?_
   refine Aw.skip ?_
   obtain rfl := some_some hh
   exact hN2 (decide (x_i.Op = (12 : Int))) _ _ _ hk2 (Ent.list2 [] rfl rfl (by decide) (rens_sp (by kernel_rfl) (rl_c (u := bb (decide (x_i.Op = (12 : Int)))) (by kernel_rfl) ren_b rl_n)) hs_nil)
 refine cF hb ?_
 refine sy [7, 8] [] (sp 17 [(7, ii x_i.Op), (8, bb (decide (x_i.Op = (13 : Int))))]) [] 1 ?_
 rcases cond_some hh with ⟨hb, hh⟩ | ⟨hb, hh⟩
 · refine cT hb ?_
   refine Aw.skip ?_
   obtain rfl := some_some hh
   exact hN2 (decide (x_i.Op = (13 : Int))) _ _ _ hk2 (Ent.list2 [] rfl rfl (by decide) (rens_sp (by kernel_rfl) (rl_c (u := bb (decide (x_i.Op = (13 : Int)))) (by kernel_rfl) ren_b rl_n)) hs_nil)
 refine cF hb ?_
 refine Aw.oreg ?_
 refine ye (sp 17 [(7, ii x_i.Op), (8, bb (decide (x_i.Op = (14 : Int)))), (16, bb (decide (x_i.Op = (14 : Int))))]) [] 1 ?_
 obtain rfl := some_some hh
 exact hN2 (decide (x_i.Op = (14 : Int))) _ _ _ hk2 (Ent.list2 [] rfl rfl (by decide) (rens_sp (by kernel_rfl) (rl_c (u := bb (decide (x_i.Op = (14 : Int)))) (by kernel_rfl) ren_b rl_n)) hs_nil)
def Lf103_r0 : List LOper := [oo 6 (.mv (.c .nil))]
def Lf103_r1 : List LOper := [om 8 0, oo 9 (.call 88 [(.t 8)]), om 7 9]
def Lf103_r2 : List LOper := [om 10 7, om 11 1, om 12 2, oo 13 (.iadr 1 (.t 10) (.t 11)), ⟨none, (.store 1 (.t 13) (.t 12)), none⟩]
def Lf103_r3 : List LOper := [om 14 7, om 6 14]
def Lf103 : LFun := ⟨15, [(.tmp 6)], (.seq (.reg false Lf103_r0) (.seq (.reg false Lf103_r1) (.seq (.reg false Lf103_r2) (.seq (.reg false Lf103_r3) .ret))))⟩
theorem low_impl_changed : lowFun Go.Proofs.Try.prog 103 = some Lf103 := by kernel_rfl
noncomputable def F_impl_changed (x_list : List Int) (x_at : Int) (x_w : Int) : Option (List Int) :=
 Option.bind (F_impl_copied x_list) fun v1 =>
 grd ((0 : Int) ≤ x_at ∧ x_at < (((List.length v1) : Nat) : Int)) (some (List.set v1 (Int.toNat x_at) x_w))
theorem impl_changed_fn {x_list : List Int} {x_at : Int} {x_w : Int} {R_ : (List Int)} (hh : F_impl_changed x_list x_at x_w = some R_) : Fn Try.prog 103 [bo (eI .i64) x_list, .int .i64 x_at, .int .i64 x_w] (.own 3 1 (List.length R_) (fl (eI .i64) R_)) := by
 unfold F_impl_changed at hh
 refine Fn.start low_impl_changed [0, 1, 2] (E := sp 15 [(0, bo (eI .i64) x_list), (1, ii x_at), (2, ii x_w)]) (by kernel_rfl) (v := sw 0 R_) (Hr := [(0, some ⟨3, (fl (eI .i64) R_)⟩)]) (k := 1) (by kernel_rfl) ?_
 refine sy [0, 1, 2] [] (sp 15 [(0, bo (eI .i64) x_list), (1, ii x_at), (2, ii x_w)]) [] 0 ?_
 refine Aw.sreg [1, 2, 7] [0] (yu 1 [(8, bo (eI .i64) x_list)] [] 0 ?_)
 obtain ⟨v1, hv1, hh⟩ := bind_some hh
 refine ys (.call 88 [(.t 8)]) (some 9) (op_call (r := .own 3 1 (List.length v1) (fl (eI .i64) v1)) (v := sw 0 v1) (Hr := [(0, some ⟨3, (fl (eI .i64) v1)⟩)]) (n' := 1) (impl_copied_fn hv1) (clz_v (vs := [bo (eI .i64) x_list]) (by kernel_rfl) (clz_c (clo_same (clean_bor (cleans_fl cl_eI))) clz_n)) (by simp only [AV.noRef, noRefs, Bool.and_self, noRefs_fl nr_eI]) (by simp only [AV.noBor, noBors, Bool.and_self, noBors_fl nb_eI]) (by kernel_rfl) ?_)
 refine yt (sp 15 [(1, ii x_at), (2, ii x_w), (7, sw 0 v1)]) [(0, some ⟨3, (fl (eI .i64) v1)⟩)] 1 ?_
 refine Aw.sreg [7] [0] ?_
 obtain ⟨hg2, hh⟩ := grd_some hh
 refine yjc 4 [(0 : Int) ≤ x_at ∧ x_at < (((List.length v1) : Nat) : Int)] (sp 15 [(1, ii x_at), (2, ii x_w), (7, sw 0 v1), (10, sw 0 v1), (11, ii x_at), (12, ii x_w), (13, .ptr 0 [] (0 + (Int.toNat x_at) * 1))]) [(0, some ⟨3, (fl (eI .i64) v1)⟩)] 1 (.cons hg2 .nil) ?_
 let q1 : Root := ⟨3, (fl (eI .i64) (List.set v1 (Int.toNat x_at) x_w))⟩
 refine ys (.store 1 (.t 13) (.t 12)) none (op_store (c := (eI .i64)) (xs := v1) (e := 3) (r := 0) (π := []) (o := 0 + (Int.toNat x_at) * 1) (i := (Int.toNat x_at)) (off := 0) (vs := [ii x_w]) (y := x_w) (H' := [(0, some q1), (0, some ⟨3, (fl (eI .i64) v1)⟩)]) len_eI (by kernel_rfl) (by kernel_rfl) (by kernel_rfl) (by kernel_rfl) (by omega) (by omega) (by decide) (by kernel_rfl) (by kernel_rfl) ?_)
 refine yt (sp 15 [(7, sw 0 v1)]) [(0, some q1)] 1 ?_
 refine sy [6] [0] (sp 15 [(6, sw 0 v1)]) [(0, some q1)] 1 ?_
 refine Aw.ret ?_
 rw [some_some hh]
 exact gives (r' := sw 0 v1) (by kernel_rfl) (Ent.list [some 0] rfl rfl (Nat.zero_le _) (rens_1 ren_sx) (hq q1 (rens_same (noRefs_fl nr_eI)) hs_nil))
def Lf101_r0 : List LOper := [oo 2 (.mv (.c (ii 0)))]
def Lf101_r1 : List LOper := [om 3 0, oo 4 (.bin .add (.t 3) (.c (ii 1))), oo 5 (.bin .rem (.t 4) (.c (ii 64))), om 2 5]
def Lf101 : LFun := ⟨6, [(.tmp 2)], (.seq (.reg false Lf101_r0) (.seq (.reg false Lf101_r1) .ret))⟩
theorem low_impl_nextPlace : lowFun Go.Proofs.Try.prog 101 = some Lf101 := by kernel_rfl
noncomputable def F_impl_nextPlace (x_pc : Int) : Option Int :=
 some (Int.tmod (w64 (x_pc + (1 : Int))) (64 : Int))
theorem impl_nextPlace_fn {x_pc : Int} {R_ : Int} (hh : F_impl_nextPlace x_pc = some R_) : Fn Try.prog 101 [.int .i64 x_pc] (.int .i64 R_) := by
 unfold F_impl_nextPlace at hh
 refine Fn.start low_impl_nextPlace [0] (E := sp 6 [(0, ii x_pc)]) (by kernel_rfl) (v := ii R_) (Hr := []) (k := 0) (by kernel_rfl) ?_
 refine sy [0] [] (sp 6 [(0, ii x_pc)]) [] 0 ?_
 refine Aw.sreg [2] [] ?_
 refine ytc [(64 : Int) ≠ 0] (sp 6 [(2, ii (Int.tmod (w64 (x_pc + (1 : Int))) (64 : Int)))]) [] 0 (.cons (by decide) .nil) ?_
 refine Aw.ret ?_
 rw [some_some hh]
 exact gvi
def Lf105_r0 : List LOper := [oo 1 (.box 43 (.t 0)), oo 2 (.fresh 43 [.nil, (ii 0), (ii 0), (ii 0), (ii 0), (bb false), (ii 0), (ii 0), (ii 0), (bb false), (bb false), (bb false), (bb false), .nil, .nil, .nil])]
def Lf105_r1 : List LOper := [oo 3 (.fadr 0 (.t 1)), oo 4 (.fadr 1 (.t 3)), oo 5 (.load false 1 (.t 4)), oo 6 (.call 101 [(.t 5)]), oo 7 (.fadr 0 (.t 1)), oo 8 (.fadr 1 (.t 7)), ⟨none, (.store 1 (.t 8) (.t 6)), none⟩]
def Lf105_r2 : List LOper := [oo 9 (.load true 16 (.t 1)), ⟨none, (.store 16 (.t 2) (.t 9)), none⟩]
def Lf105 : LFun := ⟨10, [(.cell 2 true 16)], (.seq (.reg false Lf105_r0) (.seq (.reg false Lf105_r1) (.seq (.reg false Lf105_r2) .ret)))⟩
theorem low_impl_wentOn : lowFun Go.Proofs.Try.prog 105 = some Lf105 := by kernel_rfl
noncomputable def F_impl_wentOn (x_b : DBare) : Option DBare :=
 Option.bind (F_impl_nextPlace x_b.C.Pc) fun v1 =>
 some (DBare.mk (DCore.mk x_b.C.Regs v1 x_b.C.Root x_b.C.Vector x_b.C.Saved x_b.C.SavedUser x_b.C.Cause x_b.C.Bad x_b.C.Timer x_b.C.Waits x_b.C.User x_b.C.On x_b.C.Stopped) x_b.Mem x_b.In x_b.Out)
theorem impl_wentOn_fn {x_b : DBare} {R_ : DBare} (hh : F_impl_wentOn x_b = some R_) : Fn Try.prog 105 [.agg (B_43 x_b)] (.agg (bo (eI .i64) R_.C.Regs :: ru39 R_.C [bo (eI .i64) R_.Mem, bo (eI .i64) R_.In, bo (eI .i64) R_.Out])) := by
 unfold F_impl_wentOn at hh
 refine Fn.start low_impl_wentOn [0] (E := sp 10 [(0, .agg (B_43 x_b))]) (by kernel_rfl) (v := .agg (bo (eI .i64) R_.C.Regs :: ru39 R_.C [bo (eI .i64) R_.Mem, bo (eI .i64) R_.In, bo (eI .i64) R_.Out])) (Hr := []) (k := 0) (by kernel_rfl) ?_
 refine Aw.sreg [1, 2] [0, 1] ?_
 let q1 : Root := ⟨43, (.nil :: zru39 [.nil, .nil, .nil])⟩
 refine yt (sp 10 [(1, pp 0), (2, pp 1)]) [(0, some ⟨43, (B_43 x_b)⟩), (1, some q1)] 2 ?_
 refine Aw.sreg [1, 2] [0, 1] (yu 3 [(3, pp 0), (4, .ptr 0 [] 1), (5, ii x_b.C.Pc)] [(0, some ⟨43, (B_43 x_b)⟩), (1, some q1)] 2 ?_)
 obtain ⟨v1, hv1, hh⟩ := bind_some hh
 refine ys (.call 101 [(.t 5)]) (some 6) (oc (impl_nextPlace_fn hv1) ?_)
 let q2 : Root := ⟨43, [bo (eI .i64) x_b.C.Regs, ii v1, ii x_b.C.Root, ii x_b.C.Vector, ii x_b.C.Saved, bb x_b.C.SavedUser, ii x_b.C.Cause, ii x_b.C.Bad, ii x_b.C.Timer, bb x_b.C.Waits, bb x_b.C.User, bb x_b.C.On, bb x_b.C.Stopped, bo (eI .i64) x_b.Mem, bo (eI .i64) x_b.In, bo (eI .i64) x_b.Out]⟩
 refine yt (sp 10 [(1, pp 0), (2, pp 1)]) [(0, some q2), (1, some q1)] 2 ?_
 refine sy [2] [1] (sp 10 [(2, pp 1)]) [(1, some q2)] 2 ?_
 refine Aw.ret ?_
 rw [some_some hh]
 exact gives (r' := .agg [bo (eI .i64) x_b.C.Regs, ii v1, ii x_b.C.Root, ii x_b.C.Vector, ii x_b.C.Saved, bb x_b.C.SavedUser, ii x_b.C.Cause, ii x_b.C.Bad, ii x_b.C.Timer, bb x_b.C.Waits, bb x_b.C.User, bb x_b.C.On, bb x_b.C.Stopped, bo (eI .i64) x_b.Mem, bo (eI .i64) x_b.In, bo (eI .i64) x_b.Out]) (by kernel_rfl) (Ent.clov (.one _ _ (clo_agg (clos_c (clo_same (clean_bor (cleans_fl cl_eI))) (cs1 (cs1 (cs1 (cs1 (cs1 (cs1 (cs1 (cs1 (cs1 (cs1 (cs1 (cs1 (clos_c (clo_same (clean_bor (cleans_fl cl_eI))) (clos_c (clo_same (clean_bor (cleans_fl cl_eI))) (clos_c (clo_same (clean_bor (cleans_fl cl_eI))) clos_n)))))))))))))))))))
def Lf110_r0 : List LOper := [oo 2 (.box 39 (.t 0)), oo 3 (.box 76 (.t 1)), oo 4 (.mv (.c (ii 0)))]
def Lf110_r1 : List LOper := [oo 5 (.fadr 0 (.t 2)), oo 6 (.load false 1 (.t 5)), oo 7 (.fadr 2 (.t 3)), oo 8 (.load false 1 (.t 7)), oo 9 (.bin .rem (.t 8) (.c (ii 4))), oo 10 (.iadr 1 (.t 6) (.t 9)), oo 11 (.load false 1 (.t 10)), oo 12 (.bin .rem (.t 11) (.c (ii 64))), om 4 12]
def Lf110 : LFun := ⟨13, [(.tmp 4)], (.seq (.reg false Lf110_r0) (.seq (.reg false Lf110_r1) .ret))⟩
theorem low_impl_addressOf : lowFun Go.Proofs.Try.prog 110 = some Lf110 := by kernel_rfl
noncomputable def F_impl_addressOf (x_c : DCore) (x_i : DIns) : Option Int :=
 grd ((0 : Int) ≤ (Int.tmod x_i.N (4 : Int)) ∧ (Int.tmod x_i.N (4 : Int)) < ((List.length x_c.Regs : Nat) : Int)) (some (Int.tmod (List.getD x_c.Regs (Int.toNat (Int.tmod x_i.N (4 : Int))) default) (64 : Int)))
theorem impl_addressOf_fn {x_c : DCore} {x_i : DIns} {R_ : Int} (hh : F_impl_addressOf x_c x_i = some R_) : Fn Try.prog 110 [.agg (B_39 x_c), .agg (C_76 x_i)] (.int .i64 R_) := by
 unfold F_impl_addressOf at hh
 refine Fn.start low_impl_addressOf [0, 1] (E := sp 13 [(0, .agg (B_39 x_c)), (1, .agg (C_76 x_i))]) (by kernel_rfl) (v := ii R_) (Hr := []) (k := 0) (by kernel_rfl) ?_
 refine sy [2, 3] [0, 1] (sp 13 [(2, pp 0), (3, pp 1)]) [(0, some ⟨39, (B_39 x_c)⟩), (1, some ⟨76, (C_76 x_i)⟩)] 2 ?_
 refine Aw.sreg [4] [] ?_
 refine yjc 5 [(4 : Int) ≠ 0] (sp 13 [(2, pp 0), (3, pp 1), (5, pp 0), (6, bo (eI .i64) x_c.Regs), (7, .ptr 1 [] 2), (8, ii x_i.N), (9, ii (Int.tmod x_i.N (4 : Int)))]) [(0, some ⟨39, (B_39 x_c)⟩), (1, some ⟨76, (C_76 x_i)⟩)] 2 (.cons (by decide) .nil) ?_
 obtain ⟨hg2, hh⟩ := grd_some hh
 refine ys (.iadr 1 (.t 6) (.t 9)) (some 10) (op_iadr (kd := .i64) (c := (eI .i64)) (xs := x_c.Regs) len_eI (by decide) (by kernel_rfl) (by kernel_rfl) hg2 ?_)
 refine ys (.load false 1 (.t 10)) (some 11) (op_loadb (c := (eI .i64)) (xs := x_c.Regs) (o := Int.toNat (Int.tmod x_i.N (4 : Int)) * 1) (i := (Int.toNat (Int.tmod x_i.N (4 : Int)))) (off := 0) (v := ii (List.getD x_c.Regs (Int.toNat (Int.tmod x_i.N (4 : Int))) default)) len_eI (by kernel_rfl) (by omega) (by omega) (by decide) (by kernel_rfl) ?_)
 refine ytc [(64 : Int) ≠ 0] (sp 13 [(4, ii (Int.tmod (List.getD x_c.Regs (Int.toNat (Int.tmod x_i.N (4 : Int))) default) (64 : Int)))]) [] 2 (.cons (by decide) .nil) ?_
 refine Aw.ret ?_
 rw [some_some hh]
 exact gvi
def Lf99_r0 : List LOper := [oo 2 (.box 43 (.t 0)), oo 3 (.box 76 (.t 1)), oo 4 (.fresh 43 [.nil, (ii 0), (ii 0), (ii 0), (ii 0), (bb false), (ii 0), (ii 0), (ii 0), (bb false), (bb false), (bb false), (bb false), .nil, .nil, .nil])]
def Lf99_r1 : List LOper := [oo 7 (.fadr 0 (.t 2)), oo 8 (.load true 13 (.t 7)), oo 9 (.load true 3 (.t 3)), oo 10 (.call 110 [(.t 8), (.t 9)]), om 5 10]
def Lf99_r2 : List LOper := [oo 11 (.fadr 13 (.t 2)), oo 12 (.load false 1 (.t 11)), oo 13 (.fadr 0 (.t 2)), oo 14 (.fadr 2 (.t 13)), oo 15 (.load false 1 (.t 14)), om 16 5, oo 17 (.fadr 0 (.t 2)), oo 18 (.fadr 10 (.t 17)), oo 19 (.load false 1 (.t 18)), oo 20 (.call 27 [(.t 12), (.t 15), (.t 16), (.t 19), (.c (bb false))]), om 6 20]
def Lf99_r3 : List LOper := [om 21 6, oo 22 (.bin .eql (.t 21) (.c (ii (-1))))]
def Lf99_r4 : List LOper := [oo 23 (.load true 16 (.t 2)), om 24 5, oo 25 (.call 91 [(.t 23), (.t 24)]), ⟨none, (.store 16 (.t 4) (.t 25)), none⟩]
def Lf99_r5 : List LOper := [oo 26 (.fadr 0 (.t 2)), oo 27 (.fadr 0 (.t 26)), oo 28 (.load false 1 (.t 27)), oo 29 (.fadr 1 (.t 3)), oo 30 (.load false 1 (.t 29)), oo 31 (.fadr 13 (.t 2)), oo 32 (.load false 1 (.t 31)), om 33 6, oo 34 (.iadr 1 (.t 32) (.t 33)), oo 35 (.load false 1 (.t 34)), oo 36 (.call 103 [(.t 28), (.t 30), (.t 35)]), oo 37 (.fadr 0 (.t 2)), oo 38 (.fadr 0 (.t 37))]
def Lf99_r5t : List LOper := [⟨none, (.store 1 (.t 38) (.t 36)), none⟩]
def Lf99_r7 : List LOper := [oo 39 (.load true 16 (.t 2)), oo 40 (.call 105 [(.t 39)]), ⟨none, (.store 16 (.t 4) (.t 40)), none⟩]
def Lf99 : LFun := ⟨41, [(.cell 4 true 16)], (.seq (.reg false Lf99_r0) (.seq (.reg false Lf99_r1) (.seq (.reg false Lf99_r2) (.seq (.seq (.reg false Lf99_r3) (.cond (.t 22) (.seq (.reg false Lf99_r4) .ret) .skip)) (.seq (.regd Lf99_r5 Lf99_r5t) (.seq (.reg false Lf99_r7) .ret))))))⟩
theorem low_impl_loaded : lowFun Go.Proofs.Try.prog 99 = some Lf99 := by kernel_rfl
noncomputable def F_impl_loaded (x_b : DBare) (x_i : DIns) : Option DBare :=
 Option.bind (F_impl_addressOf x_b.C x_i) fun v1 =>
 Option.bind (F_impl_Walk x_b.Mem x_b.C.Root v1 x_b.C.User false) fun v2 =>
 cond (decide (v2 = (-1 : Int)))
  (Option.bind (F_impl_faulted x_b v1) fun v3 =>
  some v3)
  (grd ((0 : Int) ≤ v2 ∧ v2 < ((List.length x_b.Mem : Nat) : Int)) (Option.bind (F_impl_changed x_b.C.Regs x_i.A (List.getD x_b.Mem (Int.toNat v2) default)) fun v4 =>
   Option.bind (F_impl_wentOn (DBare.mk (DCore.mk v4 x_b.C.Pc x_b.C.Root x_b.C.Vector x_b.C.Saved x_b.C.SavedUser x_b.C.Cause x_b.C.Bad x_b.C.Timer x_b.C.Waits x_b.C.User x_b.C.On x_b.C.Stopped) x_b.Mem x_b.In x_b.Out)) fun v5 =>
   some v5))
theorem impl_loaded_fn {x_b : DBare} {x_i : DIns} {R_ : DBare} (hh : F_impl_loaded x_b x_i = some R_) : Fn Try.prog 99 [.agg (B_43 x_b), .agg (C_76 x_i)] (.agg (bo (eI .i64) R_.C.Regs :: ru39 R_.C [bo (eI .i64) R_.Mem, bo (eI .i64) R_.In, bo (eI .i64) R_.Out])) := by
 unfold F_impl_loaded at hh
 refine Fn.start low_impl_loaded [0, 1] (E := sp 41 [(0, .agg (B_43 x_b)), (1, .agg (C_76 x_i))]) (by kernel_rfl) (v := .agg (bo (eI .i64) R_.C.Regs :: ru39 R_.C [bo (eI .i64) R_.Mem, bo (eI .i64) R_.In, bo (eI .i64) R_.Out])) (Hr := []) (k := 0) (by kernel_rfl) ?_
 refine Aw.sreg [2, 3, 4] [0, 1, 2] ?_
 let q1 : Root := ⟨43, (.nil :: zru39 [.nil, .nil, .nil])⟩
 refine yt (sp 41 [(2, pp 0), (3, pp 1), (4, pp 2)]) [(0, some ⟨43, (B_43 x_b)⟩), (1, some ⟨76, (C_76 x_i)⟩), (2, some q1)] 3 ?_
 refine Aw.sreg [2, 3, 4, 5] [0, 1, 2] (yu 3 [(7, pp 0), (8, .agg (B_39 x_b.C)), (9, .agg (C_76 x_i))] [(0, some ⟨43, (B_43 x_b)⟩), (1, some ⟨76, (C_76 x_i)⟩), (2, some q1)] 3 ?_)
 obtain ⟨v1, hv1, hh⟩ := bind_some hh
 refine ys (.call 110 [(.t 8), (.t 9)]) (some 10) (op_call (r := ii v1) (v := ii v1) (Hr := []) (n' := 3) (impl_addressOf_fn hv1) (clz_v (vs := [.agg (B_39 x_b.C), .agg (C_76 x_i)]) (by kernel_rfl) (clz_c (clo_same (clean_agg (cl_B_39 _))) (cz1 clz_n))) rfl rfl (by kernel_rfl) ?_)
 refine yt (sp 41 [(2, pp 0), (3, pp 1), (4, pp 2), (5, ii v1)]) [(0, some ⟨43, (B_43 x_b)⟩), (1, some ⟨76, (C_76 x_i)⟩), (2, some q1)] 3 ?_
 refine Aw.sreg [2, 3, 4, 5, 6] [0, 1, 2] (yu 9 [(11, .ptr 0 [] 13), (12, bo (eI .i64) x_b.Mem), (13, pp 0), (14, .ptr 0 [] 2), (15, ii x_b.C.Root), (16, ii v1), (17, pp 0), (18, .ptr 0 [] 10), (19, bb x_b.C.User)] [(0, some ⟨43, (B_43 x_b)⟩), (1, some ⟨76, (C_76 x_i)⟩), (2, some q1)] 3 ?_)
 obtain ⟨v2, hv2, hh⟩ := bind_some hh
 refine ys (.call 27 [(.t 12), (.t 15), (.t 16), (.t 19), (.c (bb false))]) (some 20) (oc (impl_Walk_fn hv2) ?_)
 refine yt (sp 41 [(2, pp 0), (3, pp 1), (4, pp 2), (5, ii v1), (6, ii v2)]) [(0, some ⟨43, (B_43 x_b)⟩), (1, some ⟨76, (C_76 x_i)⟩), (2, some q1)] 3 ?_
 refine Aw.seq ?_
 refine sy [2, 3, 4, 5, 6, 22] [0, 1, 2] (sp 41 [(2, pp 0), (3, pp 1), (4, pp 2), (5, ii v1), (6, ii v2), (22, bb (decide (v2 = (-1 : Int))))]) [(0, some ⟨43, (B_43 x_b)⟩), (1, some ⟨76, (C_76 x_i)⟩), (2, some q1)] 3 ?_
 rcases cond_some hh with ⟨hb, hh⟩ | ⟨hb, hh⟩
 · refine cT hb ?_
   refine Aw.sreg [4] [2] (yu 2 [(23, .agg (B_43 x_b)), (24, ii v1)] [(0, some ⟨43, (B_43 x_b)⟩), (1, some ⟨76, (C_76 x_i)⟩), (2, some q1)] 3 ?_)
   obtain ⟨v3, hv3, hh⟩ := bind_some hh
   refine ys (.call 91 [(.t 23), (.t 24)]) (some 25) (op_callp (r := .agg (B_43 v3)) (v := .agg (B_43 v3)) (Hr := []) (n' := 3) (impl_faulted_fn hv3) (clz_v (vs := [.agg (B_43 x_b), ii v1]) (by kernel_rfl) (clz_c (clo_same (clean_agg (cl_B_43 _))) (cz1 clz_n))) (by simp only [AV.noRef, noRefs, Bool.and_self, noRefs_fl nr_eI, nr_B_43]) (by kernel_rfl) ?_)
   refine yt (sp 41 [(4, pp 2)]) [(2, some ⟨43, (B_43 v3)⟩)] 3 ?_
   refine Aw.ret ?_
   refine then_r ?_
   rw [some_some hh]
   exact gives (r' := .agg (B_43 v3)) (by kernel_rfl) (Ent.clov (.one _ _ (clo_same (clean_agg (cl_B_43 _)))))
 refine cF hb ?_
 refine Aw.xskip (fun _ _ _ hq => then_m hq) ?_
 refine Aw.sregd [2, 4] [0, 2, 3] [] (by kernel_rfl) ?_
 refine dc (cs := []) (E' := (sp 41 [(2, pp 0), (3, pp 1), (4, pp 2), (5, ii v1), (6, ii v2), (22, bb (decide (v2 = (-1 : Int)))), (26, pp 0), (27, pp 0), (28, bo (eI .i64) x_b.C.Regs), (29, .ptr 1 [] 1), (30, ii x_i.A), (31, .ptr 0 [] 13), (32, bo (eI .i64) x_b.Mem), (33, ii v2)])) (H' := [(0, some ⟨43, (B_43 x_b)⟩), (1, some ⟨76, (C_76 x_i)⟩), (2, some q1)]) (n' := 3) (fs' := none) (pre := (List.take 8 Lf99_r5)) (L' := (List.drop 8 Lf99_r5)) (by kernel_rfl) (fun K => by kernel_rfl) .nil ?_
 obtain ⟨hg2, hh⟩ := grd_some hh
 refine ds (.iadr 1 (.t 32) (.t 33)) (some 34) (ydo_q rfl (by kernel_rfl) (op_iadr (kd := .i64) (c := (eI .i64)) (xs := x_b.Mem) len_eI (by decide) (by kernel_rfl) (by kernel_rfl) hg2 ?_))
 refine ds (.load false 1 (.t 34)) (some 35) (ydo_q rfl (by kernel_rfl) (op_loadb (c := (eI .i64)) (xs := x_b.Mem) (o := Int.toNat v2 * 1) (i := (Int.toNat v2)) (off := 0) (v := ii (List.getD x_b.Mem (Int.toNat v2) default)) len_eI (by kernel_rfl) (by omega) (by omega) (by decide) (by kernel_rfl) ?_))
 obtain ⟨v4, hv4, hh⟩ := bind_some hh
 refine ds (.call 103 [(.t 28), (.t 30), (.t 35)]) (some 36) (ydo_n rfl (op_call (r := .own 3 1 (List.length v4) (fl (eI .i64) v4)) (v := sw 3 v4) (Hr := [(3, some ⟨3, (fl (eI .i64) v4)⟩)]) (n' := 4) (impl_changed_fn hv4) (clz_v (vs := [bo (eI .i64) x_b.C.Regs, ii x_i.A, ii (List.getD x_b.Mem (Int.toNat v2) default)]) (by kernel_rfl) (clz_c (clo_same (clean_bor (cleans_fl cl_eI))) (cz1 (cz1 clz_n)))) (by simp only [AV.noRef, noRefs, Bool.and_self, noRefs_fl nr_eI]) (by simp only [AV.noBor, noBors, Bool.and_self, noBors_fl nb_eI]) (by kernel_rfl) ⟨⟨agr_name (n := 3) (n0 := 3) (r := .own 3 1 (List.length v4) (fl (eI .i64) v4)) (v := sw 3 v4) (Hr := [(3, some ⟨3, (fl (eI .i64) v4)⟩)]) (n' := 4) (by kernel_rfl) (by decide), Hld.un ?_⟩⟩))
 refine dct (cs := []) (E' := (sp 41 [(2, pp 0), (3, pp 1), (4, pp 2), (5, ii v1), (6, ii v2), (22, bb (decide (v2 = (-1 : Int)))), (26, pp 0), (27, pp 0), (28, bo (eI .i64) x_b.C.Regs), (29, .ptr 1 [] 1), (30, ii x_i.A), (31, .ptr 0 [] 13), (32, bo (eI .i64) x_b.Mem), (33, ii v2), (34, .bptr (fl (eI .i64) x_b.Mem) (Int.toNat v2 * 1)), (35, ii (List.getD x_b.Mem (Int.toNat v2) default)), (36, sw 3 v4), (37, pp 0), (38, pp 0)])) (H' := [(3, some ⟨3, (fl (eI .i64) v4)⟩), (0, some ⟨43, (B_43 x_b)⟩), (1, some ⟨76, (C_76 x_i)⟩), (2, some q1)]) (n' := 4) (fun K => by kernel_rfl) .nil ?_
 let q2 : Root := ⟨43, (sw 3 v4 :: ru39 x_b.C [bo (eI .i64) x_b.Mem, bo (eI .i64) x_b.In, bo (eI .i64) x_b.Out])⟩
 refine yt (sp 41 [(2, pp 0), (4, pp 2)]) [(0, some q2), (2, some q1), (3, some ⟨3, (fl (eI .i64) v4)⟩)] 4 ?_
 let q3 : Root := ⟨43, (bo (eI .i64) v4 :: ru39 x_b.C [bo (eI .i64) x_b.Mem, bo (eI .i64) x_b.In, bo (eI .i64) x_b.Out])⟩
 refine Aw.freeze 3 (cs := (fl (eI .i64) v4)) (e := 3) (env2 := sp 41 [(2, pp 0), (4, pp 2)]) (H2 := [(0, some q3), (2, some q1)]) (by kernel_rfl) (noOwn_fl no_eI) (frs_sp (by kernel_rfl) (fl_c (u := pp 0) (by kernel_rfl) (.same _) (fl_c (u := pp 2) (by kernel_rfl) (.same _) fl_n))) (hf_c (t := q2) rfl (by kernel_rfl) rfl (frs_c (fr_all len_eI (by first | rfl | omega | (simp only [List.length_set, over_len, List.length_replicate, List.length_append, List.length_cons, List.length_nil, List.length_take, List.length_drop] <;> omega))) (frs_c (.same _) (frs_c (.same _) (frs_c (.same _) (frs_c (.same _) (frs_c (.same _) (frs_c (.same _) (frs_c (.same _) (frs_c (.same _) (frs_c (.same _) (frs_c (.same _) (frs_c (.same _) (frs_c (.same _) (frs_c (.same _) (frs_c (.same _) (frs_c (.same _) frs_n)))))))))))))))) (hf_c (t := q1) rfl (by kernel_rfl) rfl (frs_c (.same _) (frs_c (.same _) (frs_c (.same _) (frs_c (.same _) (frs_c (.same _) (frs_c (.same _) (frs_c (.same _) (frs_c (.same _) (frs_c (.same _) (frs_c (.same _) (frs_c (.same _) (frs_c (.same _) (frs_c (.same _) (frs_c (.same _) (frs_c (.same _) (frs_c (.same _) frs_n)))))))))))))))) hf_n)) ?_
 refine Aw.sreg [4] [2] (yj 1  (sp 41 [(2, pp 0), (4, pp 2), (39, .agg (bo (eI .i64) v4 :: ru39 x_b.C [bo (eI .i64) x_b.Mem, bo (eI .i64) x_b.In, bo (eI .i64) x_b.Out]))]) [(0, some q3), (2, some q1)] 4 ?_)
 obtain ⟨v5, hv5, hh⟩ := bind_some hh
 refine ys (.call 105 [(.t 39)]) (some 40) (op_callp (r := .agg (B_43 v5)) (v := .agg (B_43 v5)) (Hr := []) (n' := 4) (impl_wentOn_fn hv5) (clz_v (vs := [.agg (bo (eI .i64) v4 :: ru39 x_b.C [bo (eI .i64) x_b.Mem, bo (eI .i64) x_b.In, bo (eI .i64) x_b.Out])]) (by kernel_rfl) (clz_c (clo_agg (clos_c (clo_same (clean_bor (cleans_fl cl_eI))) (cs1 (cs1 (cs1 (cs1 (cs1 (cs1 (cs1 (cs1 (cs1 (cs1 (cs1 (cs1 (clos_c (clo_same (clean_bor (cleans_fl cl_eI))) (clos_c (clo_same (clean_bor (cleans_fl cl_eI))) (clos_c (clo_same (clean_bor (cleans_fl cl_eI))) clos_n))))))))))))))))) clz_n)) (by simp only [ru39, AV.noRef, noRefs, Bool.and_self, noRefs_fl nr_eI, nr_B_43]) (by kernel_rfl) ?_)
 refine yt (sp 41 [(4, pp 2)]) [(2, some ⟨43, (B_43 v5)⟩)] 4 ?_
 refine Aw.ret ?_
 rw [some_some hh]
 exact gives (r' := .agg (B_43 v5)) (by kernel_rfl) (Ent.clov (.one _ _ (clo_same (clean_agg (cl_B_43 _)))))
def Lf100_r0 : List LOper := [oo 2 (.box 43 (.t 0)), oo 3 (.box 76 (.t 1)), oo 4 (.fresh 43 [.nil, (ii 0), (ii 0), (ii 0), (ii 0), (bb false), (ii 0), (ii 0), (ii 0), (bb false), (bb false), (bb false), (bb false), .nil, .nil, .nil])]
def Lf100_r1 : List LOper := [oo 7 (.fadr 0 (.t 2)), oo 8 (.load true 13 (.t 7)), oo 9 (.load true 3 (.t 3)), oo 10 (.call 110 [(.t 8), (.t 9)]), om 5 10]
def Lf100_r2 : List LOper := [oo 11 (.fadr 13 (.t 2)), oo 12 (.load false 1 (.t 11)), oo 13 (.fadr 0 (.t 2)), oo 14 (.fadr 2 (.t 13)), oo 15 (.load false 1 (.t 14)), om 16 5, oo 17 (.fadr 0 (.t 2)), oo 18 (.fadr 10 (.t 17)), oo 19 (.load false 1 (.t 18)), oo 20 (.call 27 [(.t 12), (.t 15), (.t 16), (.t 19), (.c (bb true))]), om 6 20]
def Lf100_r3 : List LOper := [om 21 6, oo 22 (.bin .eql (.t 21) (.c (ii (-1))))]
def Lf100_r4 : List LOper := [oo 23 (.load true 16 (.t 2)), om 24 5, oo 25 (.call 91 [(.t 23), (.t 24)]), ⟨none, (.store 16 (.t 4) (.t 25)), none⟩]
def Lf100_r5 : List LOper := [oo 26 (.fadr 13 (.t 2)), oo 27 (.load false 1 (.t 26)), om 28 6, oo 29 (.fadr 0 (.t 2)), oo 30 (.fadr 0 (.t 29)), oo 31 (.load false 1 (.t 30)), oo 32 (.fadr 1 (.t 3)), oo 33 (.load false 1 (.t 32)), oo 34 (.iadr 1 (.t 31) (.t 33)), oo 35 (.load false 1 (.t 34)), oo 36 (.call 103 [(.t 27), (.t 28), (.t 35)]), oo 37 (.fadr 13 (.t 2))]
def Lf100_r5t : List LOper := [⟨none, (.store 1 (.t 37) (.t 36)), none⟩]
def Lf100_r7 : List LOper := [oo 38 (.load true 16 (.t 2)), oo 39 (.call 105 [(.t 38)]), ⟨none, (.store 16 (.t 4) (.t 39)), none⟩]
def Lf100 : LFun := ⟨40, [(.cell 4 true 16)], (.seq (.reg false Lf100_r0) (.seq (.reg false Lf100_r1) (.seq (.reg false Lf100_r2) (.seq (.seq (.reg false Lf100_r3) (.cond (.t 22) (.seq (.reg false Lf100_r4) .ret) .skip)) (.seq (.regd Lf100_r5 Lf100_r5t) (.seq (.reg false Lf100_r7) .ret))))))⟩
theorem low_impl_stored : lowFun Go.Proofs.Try.prog 100 = some Lf100 := by kernel_rfl
noncomputable def F_impl_stored (x_b : DBare) (x_i : DIns) : Option DBare :=
 Option.bind (F_impl_addressOf x_b.C x_i) fun v1 =>
 Option.bind (F_impl_Walk x_b.Mem x_b.C.Root v1 x_b.C.User true) fun v2 =>
 cond (decide (v2 = (-1 : Int)))
  (Option.bind (F_impl_faulted x_b v1) fun v3 =>
  some v3)
  (grd ((0 : Int) ≤ x_i.A ∧ x_i.A < ((List.length x_b.C.Regs : Nat) : Int)) (Option.bind (F_impl_changed x_b.Mem v2 (List.getD x_b.C.Regs (Int.toNat x_i.A) default)) fun v4 =>
   Option.bind (F_impl_wentOn (DBare.mk x_b.C v4 x_b.In x_b.Out)) fun v5 =>
   some v5))
theorem impl_stored_fn {x_b : DBare} {x_i : DIns} {R_ : DBare} (hh : F_impl_stored x_b x_i = some R_) : Fn Try.prog 100 [.agg (B_43 x_b), .agg (C_76 x_i)] (.agg (bo (eI .i64) R_.C.Regs :: ru39 R_.C [bo (eI .i64) R_.Mem, bo (eI .i64) R_.In, bo (eI .i64) R_.Out])) := by
 unfold F_impl_stored at hh
 refine Fn.start low_impl_stored [0, 1] (E := sp 40 [(0, .agg (B_43 x_b)), (1, .agg (C_76 x_i))]) (by kernel_rfl) (v := .agg (bo (eI .i64) R_.C.Regs :: ru39 R_.C [bo (eI .i64) R_.Mem, bo (eI .i64) R_.In, bo (eI .i64) R_.Out])) (Hr := []) (k := 0) (by kernel_rfl) ?_
 refine Aw.sreg [2, 3, 4] [0, 1, 2] ?_
 let q1 : Root := ⟨43, (.nil :: zru39 [.nil, .nil, .nil])⟩
 refine yt (sp 40 [(2, pp 0), (3, pp 1), (4, pp 2)]) [(0, some ⟨43, (B_43 x_b)⟩), (1, some ⟨76, (C_76 x_i)⟩), (2, some q1)] 3 ?_
 refine Aw.sreg [2, 3, 4, 5] [0, 1, 2] (yu 3 [(7, pp 0), (8, .agg (B_39 x_b.C)), (9, .agg (C_76 x_i))] [(0, some ⟨43, (B_43 x_b)⟩), (1, some ⟨76, (C_76 x_i)⟩), (2, some q1)] 3 ?_)
 obtain ⟨v1, hv1, hh⟩ := bind_some hh
 refine ys (.call 110 [(.t 8), (.t 9)]) (some 10) (op_call (r := ii v1) (v := ii v1) (Hr := []) (n' := 3) (impl_addressOf_fn hv1) (clz_v (vs := [.agg (B_39 x_b.C), .agg (C_76 x_i)]) (by kernel_rfl) (clz_c (clo_same (clean_agg (cl_B_39 _))) (cz1 clz_n))) rfl rfl (by kernel_rfl) ?_)
 refine yt (sp 40 [(2, pp 0), (3, pp 1), (4, pp 2), (5, ii v1)]) [(0, some ⟨43, (B_43 x_b)⟩), (1, some ⟨76, (C_76 x_i)⟩), (2, some q1)] 3 ?_
 refine Aw.sreg [2, 3, 4, 5, 6] [0, 1, 2] (yu 9 [(11, .ptr 0 [] 13), (12, bo (eI .i64) x_b.Mem), (13, pp 0), (14, .ptr 0 [] 2), (15, ii x_b.C.Root), (16, ii v1), (17, pp 0), (18, .ptr 0 [] 10), (19, bb x_b.C.User)] [(0, some ⟨43, (B_43 x_b)⟩), (1, some ⟨76, (C_76 x_i)⟩), (2, some q1)] 3 ?_)
 obtain ⟨v2, hv2, hh⟩ := bind_some hh
 refine ys (.call 27 [(.t 12), (.t 15), (.t 16), (.t 19), (.c (bb true))]) (some 20) (oc (impl_Walk_fn hv2) ?_)
 refine yt (sp 40 [(2, pp 0), (3, pp 1), (4, pp 2), (5, ii v1), (6, ii v2)]) [(0, some ⟨43, (B_43 x_b)⟩), (1, some ⟨76, (C_76 x_i)⟩), (2, some q1)] 3 ?_
 refine Aw.seq ?_
 refine sy [2, 3, 4, 5, 6, 22] [0, 1, 2] (sp 40 [(2, pp 0), (3, pp 1), (4, pp 2), (5, ii v1), (6, ii v2), (22, bb (decide (v2 = (-1 : Int))))]) [(0, some ⟨43, (B_43 x_b)⟩), (1, some ⟨76, (C_76 x_i)⟩), (2, some q1)] 3 ?_
 rcases cond_some hh with ⟨hb, hh⟩ | ⟨hb, hh⟩
 · refine cT hb ?_
   refine Aw.sreg [4] [2] (yu 2 [(23, .agg (B_43 x_b)), (24, ii v1)] [(0, some ⟨43, (B_43 x_b)⟩), (1, some ⟨76, (C_76 x_i)⟩), (2, some q1)] 3 ?_)
   obtain ⟨v3, hv3, hh⟩ := bind_some hh
   refine ys (.call 91 [(.t 23), (.t 24)]) (some 25) (op_callp (r := .agg (B_43 v3)) (v := .agg (B_43 v3)) (Hr := []) (n' := 3) (impl_faulted_fn hv3) (clz_v (vs := [.agg (B_43 x_b), ii v1]) (by kernel_rfl) (clz_c (clo_same (clean_agg (cl_B_43 _))) (cz1 clz_n))) (by simp only [AV.noRef, noRefs, Bool.and_self, noRefs_fl nr_eI, nr_B_43]) (by kernel_rfl) ?_)
   refine yt (sp 40 [(4, pp 2)]) [(2, some ⟨43, (B_43 v3)⟩)] 3 ?_
   refine Aw.ret ?_
   refine then_r ?_
   rw [some_some hh]
   exact gives (r' := .agg (B_43 v3)) (by kernel_rfl) (Ent.clov (.one _ _ (clo_same (clean_agg (cl_B_43 _)))))
 refine cF hb ?_
 refine Aw.xskip (fun _ _ _ hq => then_m hq) ?_
 refine Aw.sregd [2, 4] [0, 2, 3] [] (by kernel_rfl) ?_
 refine dc (cs := []) (E' := (sp 40 [(2, pp 0), (3, pp 1), (4, pp 2), (5, ii v1), (6, ii v2), (22, bb (decide (v2 = (-1 : Int)))), (26, .ptr 0 [] 13), (27, bo (eI .i64) x_b.Mem), (28, ii v2), (29, pp 0), (30, pp 0), (31, bo (eI .i64) x_b.C.Regs), (32, .ptr 1 [] 1), (33, ii x_i.A)])) (H' := [(0, some ⟨43, (B_43 x_b)⟩), (1, some ⟨76, (C_76 x_i)⟩), (2, some q1)]) (n' := 3) (fs' := none) (pre := (List.take 8 Lf100_r5)) (L' := (List.drop 8 Lf100_r5)) (by kernel_rfl) (fun K => by kernel_rfl) .nil ?_
 obtain ⟨hg2, hh⟩ := grd_some hh
 refine ds (.iadr 1 (.t 31) (.t 33)) (some 34) (ydo_q rfl (by kernel_rfl) (op_iadr (kd := .i64) (c := (eI .i64)) (xs := x_b.C.Regs) len_eI (by decide) (by kernel_rfl) (by kernel_rfl) hg2 ?_))
 refine ds (.load false 1 (.t 34)) (some 35) (ydo_q rfl (by kernel_rfl) (op_loadb (c := (eI .i64)) (xs := x_b.C.Regs) (o := Int.toNat x_i.A * 1) (i := (Int.toNat x_i.A)) (off := 0) (v := ii (List.getD x_b.C.Regs (Int.toNat x_i.A) default)) len_eI (by kernel_rfl) (by omega) (by omega) (by decide) (by kernel_rfl) ?_))
 obtain ⟨v4, hv4, hh⟩ := bind_some hh
 refine ds (.call 103 [(.t 27), (.t 28), (.t 35)]) (some 36) (ydo_n rfl (op_call (r := .own 3 1 (List.length v4) (fl (eI .i64) v4)) (v := sw 3 v4) (Hr := [(3, some ⟨3, (fl (eI .i64) v4)⟩)]) (n' := 4) (impl_changed_fn hv4) (clz_v (vs := [bo (eI .i64) x_b.Mem, ii v2, ii (List.getD x_b.C.Regs (Int.toNat x_i.A) default)]) (by kernel_rfl) (clz_c (clo_same (clean_bor (cleans_fl cl_eI))) (cz1 (cz1 clz_n)))) (by simp only [AV.noRef, noRefs, Bool.and_self, noRefs_fl nr_eI]) (by simp only [AV.noBor, noBors, Bool.and_self, noBors_fl nb_eI]) (by kernel_rfl) ⟨⟨agr_name (n := 3) (n0 := 3) (r := .own 3 1 (List.length v4) (fl (eI .i64) v4)) (v := sw 3 v4) (Hr := [(3, some ⟨3, (fl (eI .i64) v4)⟩)]) (n' := 4) (by kernel_rfl) (by decide), Hld.un ?_⟩⟩))
 refine dct (cs := []) (E' := (sp 40 [(2, pp 0), (3, pp 1), (4, pp 2), (5, ii v1), (6, ii v2), (22, bb (decide (v2 = (-1 : Int)))), (26, .ptr 0 [] 13), (27, bo (eI .i64) x_b.Mem), (28, ii v2), (29, pp 0), (30, pp 0), (31, bo (eI .i64) x_b.C.Regs), (32, .ptr 1 [] 1), (33, ii x_i.A), (34, .bptr (fl (eI .i64) x_b.C.Regs) (Int.toNat x_i.A * 1)), (35, ii (List.getD x_b.C.Regs (Int.toNat x_i.A) default)), (36, sw 3 v4), (37, .ptr 0 [] 13)])) (H' := [(3, some ⟨3, (fl (eI .i64) v4)⟩), (0, some ⟨43, (B_43 x_b)⟩), (1, some ⟨76, (C_76 x_i)⟩), (2, some q1)]) (n' := 4) (fun K => by kernel_rfl) .nil ?_
 let q2 : Root := ⟨43, (bo (eI .i64) x_b.C.Regs :: ru39 x_b.C [sw 3 v4, bo (eI .i64) x_b.In, bo (eI .i64) x_b.Out])⟩
 refine yt (sp 40 [(2, pp 0), (4, pp 2)]) [(0, some q2), (2, some q1), (3, some ⟨3, (fl (eI .i64) v4)⟩)] 4 ?_
 let q3 : Root := ⟨43, (bo (eI .i64) x_b.C.Regs :: ru39 x_b.C [bo (eI .i64) v4, bo (eI .i64) x_b.In, bo (eI .i64) x_b.Out])⟩
 refine Aw.freeze 3 (cs := (fl (eI .i64) v4)) (e := 3) (env2 := sp 40 [(2, pp 0), (4, pp 2)]) (H2 := [(0, some q3), (2, some q1)]) (by kernel_rfl) (noOwn_fl no_eI) (frs_sp (by kernel_rfl) (fl_c (u := pp 0) (by kernel_rfl) (.same _) (fl_c (u := pp 2) (by kernel_rfl) (.same _) fl_n))) (hf_c (t := q2) rfl (by kernel_rfl) rfl (frs_c (.same _) (frs_c (.same _) (frs_c (.same _) (frs_c (.same _) (frs_c (.same _) (frs_c (.same _) (frs_c (.same _) (frs_c (.same _) (frs_c (.same _) (frs_c (.same _) (frs_c (.same _) (frs_c (.same _) (frs_c (.same _) (frs_c (fr_all len_eI (by first | rfl | omega | (simp only [List.length_set, over_len, List.length_replicate, List.length_append, List.length_cons, List.length_nil, List.length_take, List.length_drop] <;> omega))) (frs_c (.same _) (frs_c (.same _) frs_n)))))))))))))))) (hf_c (t := q1) rfl (by kernel_rfl) rfl (frs_c (.same _) (frs_c (.same _) (frs_c (.same _) (frs_c (.same _) (frs_c (.same _) (frs_c (.same _) (frs_c (.same _) (frs_c (.same _) (frs_c (.same _) (frs_c (.same _) (frs_c (.same _) (frs_c (.same _) (frs_c (.same _) (frs_c (.same _) (frs_c (.same _) (frs_c (.same _) frs_n)))))))))))))))) hf_n)) ?_
 refine Aw.sreg [4] [2] (yj 1  (sp 40 [(2, pp 0), (4, pp 2), (38, .agg (bo (eI .i64) x_b.C.Regs :: ru39 x_b.C [bo (eI .i64) v4, bo (eI .i64) x_b.In, bo (eI .i64) x_b.Out]))]) [(0, some q3), (2, some q1)] 4 ?_)
 obtain ⟨v5, hv5, hh⟩ := bind_some hh
 refine ys (.call 105 [(.t 38)]) (some 39) (op_callp (r := .agg (B_43 v5)) (v := .agg (B_43 v5)) (Hr := []) (n' := 4) (impl_wentOn_fn hv5) (clz_v (vs := [.agg (bo (eI .i64) x_b.C.Regs :: ru39 x_b.C [bo (eI .i64) v4, bo (eI .i64) x_b.In, bo (eI .i64) x_b.Out])]) (by kernel_rfl) (clz_c (clo_agg (clos_c (clo_same (clean_bor (cleans_fl cl_eI))) (cs1 (cs1 (cs1 (cs1 (cs1 (cs1 (cs1 (cs1 (cs1 (cs1 (cs1 (cs1 (clos_c (clo_same (clean_bor (cleans_fl cl_eI))) (clos_c (clo_same (clean_bor (cleans_fl cl_eI))) (clos_c (clo_same (clean_bor (cleans_fl cl_eI))) clos_n))))))))))))))))) clz_n)) (by simp only [ru39, AV.noRef, noRefs, Bool.and_self, noRefs_fl nr_eI, nr_B_43]) (by kernel_rfl) ?_)
 refine yt (sp 40 [(4, pp 2)]) [(2, some ⟨43, (B_43 v5)⟩)] 4 ?_
 refine Aw.ret ?_
 rw [some_some hh]
 exact gives (r' := .agg (B_43 v5)) (by kernel_rfl) (Ent.clov (.one _ _ (clo_same (clean_agg (cl_B_43 _)))))
def Lf102_r0 : List LOper := [oo 2 (.box 43 (.t 0)), oo 3 (.box 76 (.t 1)), oo 4 (.fresh 43 [.nil, (ii 0), (ii 0), (ii 0), (ii 0), (bb false), (ii 0), (ii 0), (ii 0), (bb false), (bb false), (bb false), (bb false), .nil, .nil, .nil])]
def Lf102_r1 : List LOper := [oo 5 (.fadr 0 (.t 3)), oo 6 (.load false 1 (.t 5)), oo 7 (.bin .eql (.t 6) (.c (ii 6))), om 8 7, ⟨(some 9), (.fadr 0 (.t 2)), (some (8, true))⟩, ⟨(some 10), (.fadr 0 (.t 9)), (some (8, true))⟩, ⟨(some 11), (.load false 1 (.t 10)), (some (8, true))⟩, ⟨(some 12), (.fadr 1 (.t 3)), (some (8, true))⟩, ⟨(some 13), (.load false 1 (.t 12)), (some (8, true))⟩, ⟨(some 14), (.iadr 1 (.t 11) (.t 13)), (some (8, true))⟩, ⟨(some 15), (.load false 1 (.t 14)), (some (8, true))⟩, ⟨(some 16), (.bin .eql (.t 15) (.c (ii 0))), (some (8, true))⟩, oo 17 (.pick (.t 8) (.t 16) (.c (bb false)))]
def Lf102_r2 : List LOper := [oo 18 (.load true 16 (.t 2)), oo 19 (.call 105 [(.t 18)]), ⟨none, (.store 16 (.t 4) (.t 19)), none⟩]
def Lf102_r3 : List LOper := [oo 20 (.fadr 2 (.t 3)), oo 21 (.load false 1 (.t 20)), oo 22 (.fadr 0 (.t 2)), oo 23 (.fadr 1 (.t 22)), ⟨none, (.store 1 (.t 23) (.t 21)), none⟩]
def Lf102_r4 : List LOper := [oo 24 (.load true 16 (.t 2)), ⟨none, (.store 16 (.t 4) (.t 24)), none⟩]
def Lf102 : LFun := ⟨25, [(.cell 4 true 16)], (.seq (.reg false Lf102_r0) (.seq (.seq (.reg false Lf102_r1) (.cond (.t 17) (.seq (.reg false Lf102_r2) .ret) .skip)) (.seq (.reg false Lf102_r3) (.seq (.reg false Lf102_r4) .ret))))⟩
theorem low_impl_jumped : lowFun Go.Proofs.Try.prog 102 = some Lf102 := by kernel_rfl
noncomputable def F_impl_jumped_j1 (x_b : DBare) (x_i : DIns) (s1 : Unit) : Option DBare :=
 some (DBare.mk (DCore.mk x_b.C.Regs x_i.N x_b.C.Root x_b.C.Vector x_b.C.Saved x_b.C.SavedUser x_b.C.Cause x_b.C.Bad x_b.C.Timer x_b.C.Waits x_b.C.User x_b.C.On x_b.C.Stopped) x_b.Mem x_b.In x_b.Out)
noncomputable def F_impl_jumped (x_b : DBare) (x_i : DIns) : Option DBare :=
 Option.bind (cond (decide (x_i.Op = (6 : Int)))
  (grd ((0 : Int) ≤ x_i.A ∧ x_i.A < ((List.length x_b.C.Regs : Nat) : Int)) (cond (decide ((List.getD x_b.C.Regs (Int.toNat x_i.A) default) = (0 : Int)))
   (Option.bind (F_impl_wentOn x_b) fun v2 =>
   some (.out v2))
   (some (.go ()))))
  (some (.go ()))) fun j1 =>
  JO.run j1 (F_impl_jumped_j1 x_b x_i)
theorem impl_jumped_fn {x_b : DBare} {x_i : DIns} {R_ : DBare} (hh : F_impl_jumped x_b x_i = some R_) : Fn Try.prog 102 [.agg (B_43 x_b), .agg (C_76 x_i)] (.agg (bo (eI .i64) R_.C.Regs :: ru39 R_.C [bo (eI .i64) R_.Mem, bo (eI .i64) R_.In, bo (eI .i64) R_.Out])) := by
 unfold F_impl_jumped at hh
 refine Fn.start low_impl_jumped [0, 1] (E := sp 25 [(0, .agg (B_43 x_b)), (1, .agg (C_76 x_i))]) (by kernel_rfl) (v := .agg (bo (eI .i64) R_.C.Regs :: ru39 R_.C [bo (eI .i64) R_.Mem, bo (eI .i64) R_.In, bo (eI .i64) R_.Out])) (Hr := []) (k := 0) (by kernel_rfl) ?_
 refine Aw.sreg [2, 3, 4] [0, 1, 2] ?_
 let q1 : Root := ⟨43, (.nil :: zru39 [.nil, .nil, .nil])⟩
 refine yt (sp 25 [(2, pp 0), (3, pp 1), (4, pp 2)]) [(0, some ⟨43, (B_43 x_b)⟩), (1, some ⟨76, (C_76 x_i)⟩), (2, some q1)] 3 ?_
 obtain ⟨j1, hh, hk1⟩ := bind_some hh
 refine Aw.join (S := Unit) (fun s1 => sp 25 [(2, pp 0), (3, pp 1), (4, pp 2)]) (fun s1 => [(0, some ⟨43, (B_43 x_b)⟩), (1, some ⟨76, (C_76 x_i)⟩), (2, some ⟨43, (.nil :: zru39 [.nil, .nil, .nil])⟩)]) 3 (fun s1 => F_impl_jumped_j1 x_b x_i s1 = some R_) ?_ ?_
 · intro s1 hh
   unfold F_impl_jumped_j1 at hh
   refine Aw.sreg [2, 4] [0, 2] ?_
   let q2 : Root := ⟨43, [bo (eI .i64) x_b.C.Regs, ii x_i.N, ii x_b.C.Root, ii x_b.C.Vector, ii x_b.C.Saved, bb x_b.C.SavedUser, ii x_b.C.Cause, ii x_b.C.Bad, ii x_b.C.Timer, bb x_b.C.Waits, bb x_b.C.User, bb x_b.C.On, bb x_b.C.Stopped, bo (eI .i64) x_b.Mem, bo (eI .i64) x_b.In, bo (eI .i64) x_b.Out]⟩
   refine yt (sp 25 [(2, pp 0), (4, pp 2)]) [(0, some q2), (2, some q1)] 3 ?_
   refine sy [4] [2] (sp 25 [(4, pp 2)]) [(2, some q2)] 3 ?_
   refine Aw.ret ?_
   rw [some_some hh]
   exact gives (r' := .agg [bo (eI .i64) x_b.C.Regs, ii x_i.N, ii x_b.C.Root, ii x_b.C.Vector, ii x_b.C.Saved, bb x_b.C.SavedUser, ii x_b.C.Cause, ii x_b.C.Bad, ii x_b.C.Timer, bb x_b.C.Waits, bb x_b.C.User, bb x_b.C.On, bb x_b.C.Stopped, bo (eI .i64) x_b.Mem, bo (eI .i64) x_b.In, bo (eI .i64) x_b.Out]) (by kernel_rfl) (Ent.clov (.one _ _ (clo_agg (clos_c (clo_same (clean_bor (cleans_fl cl_eI))) (cs1 (cs1 (cs1 (cs1 (cs1 (cs1 (cs1 (cs1 (cs1 (cs1 (cs1 (cs1 (clos_c (clo_same (clean_bor (cleans_fl cl_eI))) (clos_c (clo_same (clean_bor (cleans_fl cl_eI))) (clos_c (clo_same (clean_bor (cleans_fl cl_eI))) clos_n)))))))))))))))))))
 intro Q1 hN1 hR1 hE1
 refine Aw.sreg [2, 3, 4, 17] [0, 1, 2] (yj 4  (sp 25 [(2, pp 0), (3, pp 1), (4, pp 2), (5, pp 1), (6, ii x_i.Op), (7, bb (decide (x_i.Op = (6 : Int)))), (8, bb (decide (x_i.Op = (6 : Int))))]) [(0, some ⟨43, (B_43 x_b)⟩), (1, some ⟨76, (C_76 x_i)⟩), (2, some q1)] 3 ?_)
 rcases cond_some hh with ⟨hb, hh⟩ | ⟨hb, hh⟩
 · refine yb 7 hb ?_
   refine yb 8 hb ?_
   refine yu 5 [(7, bb true), (8, bb true), (9, pp 0), (10, pp 0), (11, bo (eI .i64) x_b.C.Regs), (12, .ptr 1 [] 1), (13, ii x_i.A)] [(0, some ⟨43, (B_43 x_b)⟩), (1, some ⟨76, (C_76 x_i)⟩), (2, some q1)] 3 ?_
   obtain ⟨hg6, hh⟩ := grd_some hh
   refine yg (.iadr 1 (.t 11) (.t 13)) (some 14) 8 true (op_iadr (kd := .i64) (c := (eI .i64)) (xs := x_b.C.Regs) len_eI (by decide) (by kernel_rfl) (by kernel_rfl) hg6 ?_)
   refine yg (.load false 1 (.t 14)) (some 15) 8 true (op_loadb (c := (eI .i64)) (xs := x_b.C.Regs) (o := Int.toNat x_i.A * 1) (i := (Int.toNat x_i.A)) (off := 0) (v := ii (List.getD x_b.C.Regs (Int.toNat x_i.A) default)) len_eI (by kernel_rfl) (by omega) (by omega) (by decide) (by kernel_rfl) ?_)
   refine yt (sp 25 [(2, pp 0), (3, pp 1), (4, pp 2), (17, bb (decide ((List.getD x_b.C.Regs (Int.toNat x_i.A) default) = (0 : Int))))]) [(0, some ⟨43, (B_43 x_b)⟩), (1, some ⟨76, (C_76 x_i)⟩), (2, some q1)] 3 ?_
   rcases cond_some hh with ⟨hb, hh⟩ | ⟨hb, hh⟩
   · refine cT hb ?_
     refine Aw.sreg [4] [2] (yu 1 [(18, .agg (B_43 x_b))] [(0, some ⟨43, (B_43 x_b)⟩), (1, some ⟨76, (C_76 x_i)⟩), (2, some q1)] 3 ?_)
     obtain ⟨v2, hv2, hh⟩ := bind_some hh
     refine ys (.call 105 [(.t 18)]) (some 19) (op_callp (r := .agg (B_43 v2)) (v := .agg (B_43 v2)) (Hr := []) (n' := 3) (impl_wentOn_fn hv2) (clz_v (vs := [.agg (B_43 x_b)]) (by kernel_rfl) (clz_c (clo_same (clean_agg (cl_B_43 _))) clz_n)) (by simp only [AV.noRef, noRefs, Bool.and_self, noRefs_fl nr_eI, nr_B_43]) (by kernel_rfl) ?_)
     refine yt (sp 25 [(4, pp 2)]) [(2, some ⟨43, (B_43 v2)⟩)] 3 ?_
     refine Aw.ret ?_
     obtain rfl := some_some hh
     refine hR1 _ _ _ ?_
     refine ?_
     rw [some_some hk1]
     exact gives (r' := .agg (B_43 v2)) (by kernel_rfl) (Ent.clov (.one _ _ (clo_same (clean_agg (cl_B_43 _)))))
   refine cF hb ?_
   refine Aw.skip ?_
   obtain rfl := some_some hh
   exact hN1 () _ _ _ hk1 (Ent.list2 [some 0, some 1, some 2] rfl rfl (by decide) (rens_sp (by kernel_rfl) (rl_c (u := pp 0) (by kernel_rfl) (ren_p (by decide) rfl) (rl_c (u := pp 1) (by kernel_rfl) (ren_p (by decide) rfl) (rl_c (u := pp 2) (by kernel_rfl) (ren_p (by decide) rfl) rl_n)))) (hq ⟨43, (B_43 x_b)⟩ (rens_same (nr_B_43 _)) (hq ⟨76, (C_76 x_i)⟩ (rens_same (nr_C_76 _)) (hq q1 (rens_c ren_nil (rens_i (rens_i (rens_i (rens_i (rens_b (rens_i (rens_i (rens_i (rens_b (rens_b (rens_b (rens_b (rens_c ren_nil (rens_c ren_nil (rens_c ren_nil rens_n)))))))))))))))) hs_nil))))
 refine yb 7 hb ?_
 refine yb 8 hb ?_
 refine yt (sp 25 [(2, pp 0), (3, pp 1), (4, pp 2), (17, bb false)]) [(0, some ⟨43, (B_43 x_b)⟩), (1, some ⟨76, (C_76 x_i)⟩), (2, some q1)] 3 ?_
 refine cF rfl ?_
 refine Aw.skip ?_
 obtain rfl := some_some hh
 exact hN1 () _ _ _ hk1 (Ent.list2 [some 0, some 1, some 2] rfl rfl (by decide) (rens_sp (by kernel_rfl) (rl_c (u := pp 0) (by kernel_rfl) (ren_p (by decide) rfl) (rl_c (u := pp 1) (by kernel_rfl) (ren_p (by decide) rfl) (rl_c (u := pp 2) (by kernel_rfl) (ren_p (by decide) rfl) rl_n)))) (hq ⟨43, (B_43 x_b)⟩ (rens_same (nr_B_43 _)) (hq ⟨76, (C_76 x_i)⟩ (rens_same (nr_C_76 _)) (hq q1 (rens_c ren_nil (rens_i (rens_i (rens_i (rens_i (rens_b (rens_i (rens_i (rens_i (rens_b (rens_b (rens_b (rens_b (rens_c ren_nil (rens_c ren_nil (rens_c ren_nil rens_n)))))))))))))))) hs_nil))))
def Lf104_r0 : List LOper := [oo 3 (.box 76 (.t 1)), oo 4 (.mv (.c (ii 0)))]
def Lf104_r1 : List LOper := [om 6 0, oo 7 (.fadr 2 (.t 3)), oo 8 (.load false 1 (.t 7)), oo 9 (.bin .rem (.t 8) (.c (ii 4))), oo 10 (.iadr 1 (.t 6) (.t 9)), oo 11 (.load false 1 (.t 10)), om 5 11]
def Lf104_r2 : List LOper := [oo 12 (.fadr 0 (.t 3)), oo 13 (.load false 1 (.t 12))]
def Lf104_r3 : List LOper := [oo 15 (.bin .eql (.t 13) (.c (ii 2))), om 14 15]
def Lf104_r4 : List LOper := [om 16 0, oo 17 (.fadr 1 (.t 3)), oo 18 (.load false 1 (.t 17)), oo 19 (.iadr 1 (.t 16) (.t 18)), oo 20 (.load false 1 (.t 19)), om 21 5, oo 22 (.bin .add (.t 20) (.t 21)), oo 23 (.bin .rem (.t 22) (.c (ii 4096))), om 4 23]
def Lf104_r5 : List LOper := [oo 25 (.bin .eql (.t 13) (.c (ii 15))), om 24 25]
def Lf104_r6 : List LOper := [om 26 0, oo 27 (.fadr 1 (.t 3)), oo 28 (.load false 1 (.t 27)), oo 29 (.iadr 1 (.t 26) (.t 28)), oo 30 (.load false 1 (.t 29)), om 31 5, oo 32 (.bin .sub (.t 30) (.t 31)), oo 33 (.bin .add (.t 32) (.c (ii 4096))), oo 34 (.bin .rem (.t 33) (.c (ii 4096))), om 4 34]
def Lf104_r7 : List LOper := [oo 35 (.fadr 2 (.t 3)), oo 36 (.load false 1 (.t 35)), om 4 36]
def Lf104 : LFun := ⟨37, [(.tmp 4)], (.seq (.reg false Lf104_r0) (.seq (.reg false Lf104_r1) (.seq (.seq (.reg false Lf104_r2) (.block 0 (.seq (.reg false Lf104_r3) (.cond (.t 14) (.seq (.reg false Lf104_r4) .ret) (.seq (.reg false Lf104_r5) (.cond (.t 24) (.seq (.reg false Lf104_r6) .ret) .skip)))))) (.seq (.reg false Lf104_r7) .ret))))⟩
theorem low_impl_counted : lowFun Go.Proofs.Try.prog 104 = some Lf104 := by kernel_rfl
noncomputable def F_impl_counted (x_regs : List Int) (x_i : DIns) : Option Int :=
 grd ((0 : Int) ≤ (Int.tmod x_i.N (4 : Int)) ∧ (Int.tmod x_i.N (4 : Int)) < ((List.length x_regs : Nat) : Int)) (cond (decide (x_i.Op = (2 : Int)))
  (grd ((0 : Int) ≤ x_i.A ∧ x_i.A < ((List.length x_regs : Nat) : Int)) (some (Int.tmod (w64 ((List.getD x_regs (Int.toNat x_i.A) default) + (List.getD x_regs (Int.toNat (Int.tmod x_i.N (4 : Int))) default))) (4096 : Int))))
  (cond (decide (x_i.Op = (15 : Int)))
   (grd ((0 : Int) ≤ x_i.A ∧ x_i.A < ((List.length x_regs : Nat) : Int)) (some (Int.tmod (w64 ((w64 ((List.getD x_regs (Int.toNat x_i.A) default) - (List.getD x_regs (Int.toNat (Int.tmod x_i.N (4 : Int))) default))) + (4096 : Int))) (4096 : Int))))
   (some x_i.N)))
theorem impl_counted_fn {x_regs : List Int} {x_i : DIns} {R_ : Int} (hh : F_impl_counted x_regs x_i = some R_) : Fn Try.prog 104 [bo (eI .i64) x_regs, .agg (C_76 x_i)] (.int .i64 R_) := by
 unfold F_impl_counted at hh
 refine Fn.start low_impl_counted [0, 1] (E := sp 37 [(0, bo (eI .i64) x_regs), (1, .agg (C_76 x_i))]) (by kernel_rfl) (v := ii R_) (Hr := []) (k := 0) (by kernel_rfl) ?_
 refine sy [0, 3] [0] (sp 37 [(0, bo (eI .i64) x_regs), (3, pp 0)]) [(0, some ⟨76, (C_76 x_i)⟩)] 1 ?_
 refine Aw.sreg [0, 3, 5] [0] ?_
 refine yjc 4 [(4 : Int) ≠ 0] (sp 37 [(0, bo (eI .i64) x_regs), (3, pp 0), (6, bo (eI .i64) x_regs), (7, .ptr 0 [] 2), (8, ii x_i.N), (9, ii (Int.tmod x_i.N (4 : Int)))]) [(0, some ⟨76, (C_76 x_i)⟩)] 1 (.cons (by decide) .nil) ?_
 obtain ⟨hg2, hh⟩ := grd_some hh
 refine ys (.iadr 1 (.t 6) (.t 9)) (some 10) (op_iadr (kd := .i64) (c := (eI .i64)) (xs := x_regs) len_eI (by decide) (by kernel_rfl) (by kernel_rfl) hg2 ?_)
 refine ys (.load false 1 (.t 10)) (some 11) (op_loadb (c := (eI .i64)) (xs := x_regs) (o := Int.toNat (Int.tmod x_i.N (4 : Int)) * 1) (i := (Int.toNat (Int.tmod x_i.N (4 : Int)))) (off := 0) (v := ii (List.getD x_regs (Int.toNat (Int.tmod x_i.N (4 : Int))) default)) len_eI (by kernel_rfl) (by omega) (by omega) (by decide) (by kernel_rfl) ?_)
 refine yt (sp 37 [(0, bo (eI .i64) x_regs), (3, pp 0), (5, ii (List.getD x_regs (Int.toNat (Int.tmod x_i.N (4 : Int))) default))]) [(0, some ⟨76, (C_76 x_i)⟩)] 1 ?_
 refine Aw.seq ?_
 refine sy [0, 3, 5, 13] [0] (sp 37 [(0, bo (eI .i64) x_regs), (3, pp 0), (5, ii (List.getD x_regs (Int.toNat (Int.tmod x_i.N (4 : Int))) default)), (13, ii x_i.Op)]) [(0, some ⟨76, (C_76 x_i)⟩)] 1 ?_
 refine Aw.block ?_
 refine sy [0, 3, 5, 13, 14] [0] (sp 37 [(0, bo (eI .i64) x_regs), (3, pp 0), (5, ii (List.getD x_regs (Int.toNat (Int.tmod x_i.N (4 : Int))) default)), (13, ii x_i.Op), (14, bb (decide (x_i.Op = (2 : Int))))]) [(0, some ⟨76, (C_76 x_i)⟩)] 1 ?_
 rcases cond_some hh with ⟨hb, hh⟩ | ⟨hb, hh⟩
 · refine cT hb ?_
   refine Aw.sreg [4] [] (yu 3 [(16, bo (eI .i64) x_regs), (17, .ptr 0 [] 1), (18, ii x_i.A)] [(0, some ⟨76, (C_76 x_i)⟩)] 1 ?_)
   obtain ⟨hg8, hh⟩ := grd_some hh
   refine ys (.iadr 1 (.t 16) (.t 18)) (some 19) (op_iadr (kd := .i64) (c := (eI .i64)) (xs := x_regs) len_eI (by decide) (by kernel_rfl) (by kernel_rfl) hg8 ?_)
   refine ys (.load false 1 (.t 19)) (some 20) (op_loadb (c := (eI .i64)) (xs := x_regs) (o := Int.toNat x_i.A * 1) (i := (Int.toNat x_i.A)) (off := 0) (v := ii (List.getD x_regs (Int.toNat x_i.A) default)) len_eI (by kernel_rfl) (by omega) (by omega) (by decide) (by kernel_rfl) ?_)
   refine ytc [(4096 : Int) ≠ 0] (sp 37 [(4, ii (Int.tmod (w64 ((List.getD x_regs (Int.toNat x_i.A) default) + (List.getD x_regs (Int.toNat (Int.tmod x_i.N (4 : Int))) default))) (4096 : Int)))]) [] 1 (.cons (by decide) .nil) ?_
   refine Aw.ret ?_
   refine blk_r (then_r ?_)
   rw [some_some hh]
   exact gvi
 refine cF hb ?_
 refine sy [0, 3, 5, 24] [0] (sp 37 [(0, bo (eI .i64) x_regs), (3, pp 0), (5, ii (List.getD x_regs (Int.toNat (Int.tmod x_i.N (4 : Int))) default)), (24, bb (decide (x_i.Op = (15 : Int))))]) [(0, some ⟨76, (C_76 x_i)⟩)] 1 ?_
 rcases cond_some hh with ⟨hb, hh⟩ | ⟨hb, hh⟩
 · refine cT hb ?_
   refine Aw.sreg [4] [] (yu 3 [(26, bo (eI .i64) x_regs), (27, .ptr 0 [] 1), (28, ii x_i.A)] [(0, some ⟨76, (C_76 x_i)⟩)] 1 ?_)
   obtain ⟨hg10, hh⟩ := grd_some hh
   refine ys (.iadr 1 (.t 26) (.t 28)) (some 29) (op_iadr (kd := .i64) (c := (eI .i64)) (xs := x_regs) len_eI (by decide) (by kernel_rfl) (by kernel_rfl) hg10 ?_)
   refine ys (.load false 1 (.t 29)) (some 30) (op_loadb (c := (eI .i64)) (xs := x_regs) (o := Int.toNat x_i.A * 1) (i := (Int.toNat x_i.A)) (off := 0) (v := ii (List.getD x_regs (Int.toNat x_i.A) default)) len_eI (by kernel_rfl) (by omega) (by omega) (by decide) (by kernel_rfl) ?_)
   refine ytc [(4096 : Int) ≠ 0] (sp 37 [(4, ii (Int.tmod (w64 ((w64 ((List.getD x_regs (Int.toNat x_i.A) default) - (List.getD x_regs (Int.toNat (Int.tmod x_i.N (4 : Int))) default))) + (4096 : Int))) (4096 : Int)))]) [] 1 (.cons (by decide) .nil) ?_
   refine Aw.ret ?_
   refine blk_r (then_r ?_)
   rw [some_some hh]
   exact gvi
 refine cF hb ?_
 refine Aw.xskip (fun _ _ _ hq => blk_m (then_m hq)) ?_
 refine sy [4] [] (sp 37 [(4, ii x_i.N)]) [] 1 ?_
 refine Aw.ret ?_
 rw [some_some hh]
 exact gvi
def Lf96_r0 : List LOper := [oo 2 (.box 43 (.t 0)), oo 3 (.box 76 (.t 1)), oo 4 (.fresh 43 [.nil, (ii 0), (ii 0), (ii 0), (ii 0), (bb false), (ii 0), (ii 0), (ii 0), (bb false), (bb false), (bb false), (bb false), .nil, .nil, .nil])]
def Lf96_r1 : List LOper := [oo 5 (.fadr 0 (.t 3)), oo 6 (.load false 1 (.t 5))]
def Lf96_r2 : List LOper := [oo 8 (.bin .eql (.t 6) (.c (ii 3))), om 7 8]
def Lf96_r3 : List LOper := [oo 9 (.load true 16 (.t 2)), oo 10 (.load true 3 (.t 3)), oo 11 (.call 99 [(.t 9), (.t 10)]), ⟨none, (.store 16 (.t 4) (.t 11)), none⟩]
def Lf96_r4 : List LOper := [oo 13 (.bin .eql (.t 6) (.c (ii 4))), om 12 13]
def Lf96_r5 : List LOper := [oo 14 (.load true 16 (.t 2)), oo 15 (.load true 3 (.t 3)), oo 16 (.call 100 [(.t 14), (.t 15)]), ⟨none, (.store 16 (.t 4) (.t 16)), none⟩]
def Lf96_r6 : List LOper := [oo 18 (.bin .eql (.t 6) (.c (ii 7))), om 17 18]
def Lf96_r7 : List LOper := [oo 19 (.fadr 0 (.t 2)), oo 20 (.load true 13 (.t 19)), oo 21 (.fadr 0 (.t 2)), oo 22 (.fadr 1 (.t 21)), oo 23 (.load false 1 (.t 22)), oo 24 (.call 101 [(.t 23)]), oo 25 (.call 90 [(.t 20), (.c (ii 1)), (.c (ii 0)), (.t 24)]), oo 26 (.fadr 0 (.t 2))]
def Lf96_r7t : List LOper := [⟨none, (.store 13 (.t 26) (.t 25)), none⟩]
def Lf96_r9 : List LOper := [oo 27 (.load true 16 (.t 2)), ⟨none, (.store 16 (.t 4) (.t 27)), none⟩]
def Lf96_r10 : List LOper := [oo 29 (.bin .eql (.t 6) (.c (ii 5))), om 28 29]
def Lf96_r11 : List LOper := [oo 30 (.bin .eql (.t 6) (.c (ii 6))), om 28 30]
def Lf96_r12 : List LOper := [oo 31 (.load true 16 (.t 2)), oo 32 (.load true 3 (.t 3)), oo 33 (.call 102 [(.t 31), (.t 32)]), ⟨none, (.store 16 (.t 4) (.t 33)), none⟩]
def Lf96_r13 : List LOper := [oo 34 (.fadr 0 (.t 2)), oo 35 (.fadr 0 (.t 34)), oo 36 (.load false 1 (.t 35)), oo 37 (.fadr 1 (.t 3)), oo 38 (.load false 1 (.t 37)), oo 39 (.fadr 0 (.t 2)), oo 40 (.fadr 0 (.t 39)), oo 41 (.load false 1 (.t 40)), oo 42 (.load true 3 (.t 3)), oo 43 (.call 104 [(.t 41), (.t 42)]), oo 44 (.call 103 [(.t 36), (.t 38), (.t 43)]), oo 45 (.fadr 0 (.t 2)), oo 46 (.fadr 0 (.t 45))]
def Lf96_r13t : List LOper := [⟨none, (.store 1 (.t 46) (.t 44)), none⟩]
def Lf96_r15 : List LOper := [oo 47 (.load true 16 (.t 2)), oo 48 (.call 105 [(.t 47)]), ⟨none, (.store 16 (.t 4) (.t 48)), none⟩]
def Lf96 : LFun := ⟨49, [(.cell 4 true 16)], (.seq (.reg false Lf96_r0) (.seq (.seq (.reg false Lf96_r1) (.block 0 (.seq (.reg false Lf96_r2) (.cond (.t 7) (.seq (.reg false Lf96_r3) .ret) (.seq (.reg false Lf96_r4) (.cond (.t 12) (.seq (.reg false Lf96_r5) .ret) (.seq (.reg false Lf96_r6) (.cond (.t 17) (.seq (.regd Lf96_r7 Lf96_r7t) (.seq (.reg false Lf96_r9) .ret)) (.seq (.seq (.reg false Lf96_r10) (.cond (.t 28) .skip (.reg false Lf96_r11))) (.cond (.t 28) (.seq (.reg false Lf96_r12) .ret) .skip)))))))))) (.seq (.regd Lf96_r13 Lf96_r13t) (.seq (.reg false Lf96_r15) .ret))))⟩
theorem low_impl_didOpen : lowFun Go.Proofs.Try.prog 96 = some Lf96 := by kernel_rfl
noncomputable def F_impl_didOpen_j5 (x_b : DBare) (x_i : DIns) (s5 : Bool) : Option DBare :=
 cond s5
  (Option.bind (F_impl_jumped x_b x_i) fun v6 =>
  some v6)
  (Option.bind (F_impl_counted x_b.C.Regs x_i) fun v7 =>
  Option.bind (F_impl_changed x_b.C.Regs x_i.A v7) fun v8 =>
  Option.bind (F_impl_wentOn (DBare.mk (DCore.mk v8 x_b.C.Pc x_b.C.Root x_b.C.Vector x_b.C.Saved x_b.C.SavedUser x_b.C.Cause x_b.C.Bad x_b.C.Timer x_b.C.Waits x_b.C.User x_b.C.On x_b.C.Stopped) x_b.Mem x_b.In x_b.Out)) fun v9 =>
  some v9)
noncomputable def F_impl_didOpen (x_b : DBare) (x_i : DIns) : Option DBare :=
 cond (decide (x_i.Op = (3 : Int)))
  (Option.bind (F_impl_loaded x_b x_i) fun v1 =>
  some v1)
  (cond (decide (x_i.Op = (4 : Int)))
   (Option.bind (F_impl_stored x_b x_i) fun v2 =>
   some v2)
   (cond (decide (x_i.Op = (7 : Int)))
    (Option.bind (F_impl_nextPlace x_b.C.Pc) fun v3 =>
    Option.bind (F_impl_trapped x_b.C (1 : Int) (0 : Int) v3) fun v4 =>
    some (DBare.mk v4 x_b.Mem x_b.In x_b.Out))
    (Option.bind (cond (decide (x_i.Op = (5 : Int)))
     (some (.go (decide (x_i.Op = (5 : Int)))))
     (some (.go (decide (x_i.Op = (6 : Int)))))) fun j5 =>
     JO.run j5 (F_impl_didOpen_j5 x_b x_i))))
theorem impl_didOpen_fn {x_b : DBare} {x_i : DIns} {R_ : DBare} (hh : F_impl_didOpen x_b x_i = some R_) : Fn Try.prog 96 [.agg (B_43 x_b), .agg (C_76 x_i)] (.agg (bo (eI .i64) R_.C.Regs :: ru39 R_.C [bo (eI .i64) R_.Mem, bo (eI .i64) R_.In, bo (eI .i64) R_.Out])) := by
 unfold F_impl_didOpen at hh
 refine Fn.start low_impl_didOpen [0, 1] (E := sp 49 [(0, .agg (B_43 x_b)), (1, .agg (C_76 x_i))]) (by kernel_rfl) (v := .agg (bo (eI .i64) R_.C.Regs :: ru39 R_.C [bo (eI .i64) R_.Mem, bo (eI .i64) R_.In, bo (eI .i64) R_.Out])) (Hr := []) (k := 0) (by kernel_rfl) ?_
 refine Aw.sreg [2, 3, 4] [0, 1, 2] ?_
 let q1 : Root := ⟨43, (.nil :: zru39 [.nil, .nil, .nil])⟩
 refine yt (sp 49 [(2, pp 0), (3, pp 1), (4, pp 2)]) [(0, some ⟨43, (B_43 x_b)⟩), (1, some ⟨76, (C_76 x_i)⟩), (2, some q1)] 3 ?_
 refine Aw.seq ?_
 refine sy [2, 3, 4, 6] [0, 1, 2] (sp 49 [(2, pp 0), (3, pp 1), (4, pp 2), (6, ii x_i.Op)]) [(0, some ⟨43, (B_43 x_b)⟩), (1, some ⟨76, (C_76 x_i)⟩), (2, some q1)] 3 ?_
 refine Aw.block ?_
 refine sy [2, 3, 4, 6, 7] [0, 1, 2] (sp 49 [(2, pp 0), (3, pp 1), (4, pp 2), (6, ii x_i.Op), (7, bb (decide (x_i.Op = (3 : Int))))]) [(0, some ⟨43, (B_43 x_b)⟩), (1, some ⟨76, (C_76 x_i)⟩), (2, some q1)] 3 ?_
 rcases cond_some hh with ⟨hb, hh⟩ | ⟨hb, hh⟩
 · refine cT hb ?_
   refine Aw.sreg [4] [2] (yu 2 [(9, .agg (B_43 x_b)), (10, .agg (C_76 x_i))] [(0, some ⟨43, (B_43 x_b)⟩), (1, some ⟨76, (C_76 x_i)⟩), (2, some q1)] 3 ?_)
   obtain ⟨v1, hv1, hh⟩ := bind_some hh
   refine ys (.call 99 [(.t 9), (.t 10)]) (some 11) (op_callp (r := .agg (B_43 v1)) (v := .agg (B_43 v1)) (Hr := []) (n' := 3) (impl_loaded_fn hv1) (clz_v (vs := [.agg (B_43 x_b), .agg (C_76 x_i)]) (by kernel_rfl) (clz_c (clo_same (clean_agg (cl_B_43 _))) (cz1 clz_n))) (by simp only [AV.noRef, noRefs, Bool.and_self, noRefs_fl nr_eI, nr_B_43]) (by kernel_rfl) ?_)
   refine yt (sp 49 [(4, pp 2)]) [(2, some ⟨43, (B_43 v1)⟩)] 3 ?_
   refine Aw.ret ?_
   refine blk_r (then_r ?_)
   rw [some_some hh]
   exact gives (r' := .agg (B_43 v1)) (by kernel_rfl) (Ent.clov (.one _ _ (clo_same (clean_agg (cl_B_43 _)))))
 refine cF hb ?_
 refine sy [2, 3, 4, 6, 12] [0, 1, 2] (sp 49 [(2, pp 0), (3, pp 1), (4, pp 2), (6, ii x_i.Op), (12, bb (decide (x_i.Op = (4 : Int))))]) [(0, some ⟨43, (B_43 x_b)⟩), (1, some ⟨76, (C_76 x_i)⟩), (2, some q1)] 3 ?_
 rcases cond_some hh with ⟨hb, hh⟩ | ⟨hb, hh⟩
 · refine cT hb ?_
   refine Aw.sreg [4] [2] (yu 2 [(14, .agg (B_43 x_b)), (15, .agg (C_76 x_i))] [(0, some ⟨43, (B_43 x_b)⟩), (1, some ⟨76, (C_76 x_i)⟩), (2, some q1)] 3 ?_)
   obtain ⟨v2, hv2, hh⟩ := bind_some hh
   refine ys (.call 100 [(.t 14), (.t 15)]) (some 16) (op_callp (r := .agg (B_43 v2)) (v := .agg (B_43 v2)) (Hr := []) (n' := 3) (impl_stored_fn hv2) (clz_v (vs := [.agg (B_43 x_b), .agg (C_76 x_i)]) (by kernel_rfl) (clz_c (clo_same (clean_agg (cl_B_43 _))) (cz1 clz_n))) (by simp only [AV.noRef, noRefs, Bool.and_self, noRefs_fl nr_eI, nr_B_43]) (by kernel_rfl) ?_)
   refine yt (sp 49 [(4, pp 2)]) [(2, some ⟨43, (B_43 v2)⟩)] 3 ?_
   refine Aw.ret ?_
   refine blk_r (then_r ?_)
   rw [some_some hh]
   exact gives (r' := .agg (B_43 v2)) (by kernel_rfl) (Ent.clov (.one _ _ (clo_same (clean_agg (cl_B_43 _)))))
 refine cF hb ?_
 refine sy [2, 3, 4, 6, 17] [0, 1, 2] (sp 49 [(2, pp 0), (3, pp 1), (4, pp 2), (6, ii x_i.Op), (17, bb (decide (x_i.Op = (7 : Int))))]) [(0, some ⟨43, (B_43 x_b)⟩), (1, some ⟨76, (C_76 x_i)⟩), (2, some q1)] 3 ?_
 rcases cond_some hh with ⟨hb, hh⟩ | ⟨hb, hh⟩
 · refine cT hb ?_
   refine Aw.sregd [2, 4] [0, 2] [] (by kernel_rfl) ?_
   refine dc (cs := []) (E' := (sp 49 [(2, pp 0), (3, pp 1), (4, pp 2), (6, ii x_i.Op), (17, bb (decide (x_i.Op = (7 : Int)))), (19, pp 0), (20, .agg (B_39 x_b.C)), (21, pp 0), (22, .ptr 0 [] 1), (23, ii x_b.C.Pc)])) (H' := [(0, some ⟨43, (B_43 x_b)⟩), (1, some ⟨76, (C_76 x_i)⟩), (2, some q1)]) (n' := 3) (fs' := none) (pre := (List.take 5 Lf96_r7)) (L' := (List.drop 5 Lf96_r7)) (by kernel_rfl) (fun K => by kernel_rfl) .nil ?_
   obtain ⟨v3, hv3, hh⟩ := bind_some hh
   refine ds (.call 101 [(.t 23)]) (some 24) (ydo_n rfl (op_call (r := ii v3) (v := ii v3) (Hr := []) (n' := 3) (impl_nextPlace_fn hv3) (clz_v (vs := [ii x_b.C.Pc]) (by kernel_rfl) (cz1 clz_n)) rfl rfl (by kernel_rfl) ⟨⟨agr_name (n := 3) (n0 := 3) (r := ii v3) (v := ii v3) (Hr := []) (n' := 3) (by kernel_rfl) (by decide), Hld.un ?_⟩⟩))
   obtain ⟨v4, hv4, hh⟩ := bind_some hh
   refine ds (.call 90 [(.t 20), (.c (ii 1)), (.c (ii 0)), (.t 24)]) (some 25) (ydo_n rfl (op_callp (r := .agg (B_39 v4)) (v := .agg (B_39 v4)) (Hr := []) (n' := 3) (impl_trapped_fn hv4) (clz_v (vs := [.agg (B_39 x_b.C), ii 1, ii 0, ii v3]) (by kernel_rfl) (clz_c (clo_same (clean_agg (cl_B_39 _))) (cz1 (cz1 (cz1 clz_n))))) (by simp only [AV.noRef, noRefs, Bool.and_self, noRefs_fl nr_eI, nr_B_39]) (by kernel_rfl) ⟨⟨agr_name (n := 3) (n0 := 3) (r := .agg (B_39 v4)) (v := .agg (B_39 v4)) (Hr := []) (n' := 3) (by kernel_rfl) (by decide), Hld.un ?_⟩⟩))
   refine dct (cs := []) (E' := (sp 49 [(2, pp 0), (3, pp 1), (4, pp 2), (6, ii x_i.Op), (17, bb (decide (x_i.Op = (7 : Int)))), (19, pp 0), (20, .agg (B_39 x_b.C)), (21, pp 0), (22, .ptr 0 [] 1), (23, ii x_b.C.Pc), (24, ii v3), (25, .agg (B_39 v4)), (26, pp 0)])) (H' := [(0, some ⟨43, (B_43 x_b)⟩), (1, some ⟨76, (C_76 x_i)⟩), (2, some q1)]) (n' := 3) (fun K => by kernel_rfl) .nil ?_
   let q2 : Root := ⟨43, (bo (eI .i64) v4.Regs :: ru39 v4 [bo (eI .i64) x_b.Mem, bo (eI .i64) x_b.In, bo (eI .i64) x_b.Out])⟩
   refine yt (sp 49 [(2, pp 0), (4, pp 2)]) [(0, some q2), (2, some q1)] 3 ?_
   refine sy [4] [2] (sp 49 [(4, pp 2)]) [(2, some q2)] 3 ?_
   refine Aw.ret ?_
   refine blk_r (then_r ?_)
   rw [some_some hh]
   exact gives (r' := .agg (bo (eI .i64) v4.Regs :: ru39 v4 [bo (eI .i64) x_b.Mem, bo (eI .i64) x_b.In, bo (eI .i64) x_b.Out])) (by kernel_rfl) (Ent.clov (.one _ _ (clo_agg (clos_c (clo_same (clean_bor (cleans_fl cl_eI))) (cs1 (cs1 (cs1 (cs1 (cs1 (cs1 (cs1 (cs1 (cs1 (cs1 (cs1 (cs1 (clos_c (clo_same (clean_bor (cleans_fl cl_eI))) (clos_c (clo_same (clean_bor (cleans_fl cl_eI))) (clos_c (clo_same (clean_bor (cleans_fl cl_eI))) clos_n)))))))))))))))))))
 refine cF hb ?_
 obtain ⟨j5, hh, hk5⟩ := bind_some hh
 refine Aw.join (S := Bool) (fun s5 => sp 49 [(2, pp 0), (3, pp 1), (4, pp 2), (28, bb s5)]) (fun s5 => [(0, some ⟨43, (B_43 x_b)⟩), (1, some ⟨76, (C_76 x_i)⟩), (2, some ⟨43, (.nil :: zru39 [.nil, .nil, .nil])⟩)]) 3 (fun s5 => F_impl_didOpen_j5 x_b x_i s5 = some R_) ?_ ?_
 · intro s5 hh
   unfold F_impl_didOpen_j5 at hh
   rcases cond_some hh with ⟨hb, hh⟩ | ⟨hb, hh⟩
   · refine cT hb ?_
     refine Aw.sreg [4] [2] (yj 2  (sp 49 [(2, pp 0), (3, pp 1), (4, pp 2), (28, bb s5), (31, .agg (B_43 x_b)), (32, .agg (C_76 x_i))]) [(0, some ⟨43, (B_43 x_b)⟩), (1, some ⟨76, (C_76 x_i)⟩), (2, some q1)] 3 ?_)
     obtain ⟨v6, hv6, hh⟩ := bind_some hh
     refine ys (.call 102 [(.t 31), (.t 32)]) (some 33) (op_callp (r := .agg (B_43 v6)) (v := .agg (B_43 v6)) (Hr := []) (n' := 3) (impl_jumped_fn hv6) (clz_v (vs := [.agg (B_43 x_b), .agg (C_76 x_i)]) (by kernel_rfl) (clz_c (clo_same (clean_agg (cl_B_43 _))) (cz1 clz_n))) (by simp only [AV.noRef, noRefs, Bool.and_self, noRefs_fl nr_eI, nr_B_43]) (by kernel_rfl) ?_)
     refine yt (sp 49 [(4, pp 2)]) [(2, some ⟨43, (B_43 v6)⟩)] 3 ?_
     refine Aw.ret ?_
     refine blk_r (then_r ?_)
     rw [some_some hh]
     exact gives (r' := .agg (B_43 v6)) (by kernel_rfl) (Ent.clov (.one _ _ (clo_same (clean_agg (cl_B_43 _)))))
   refine cF hb ?_
   refine Aw.xskip (fun _ _ _ hq => blk_m (then_m hq)) ?_
   refine Aw.sregd [2, 4] [0, 2, 3] [] (by kernel_rfl) ?_
   refine dc (cs := []) (E' := (sp 49 [(2, pp 0), (3, pp 1), (4, pp 2), (28, bb s5), (34, pp 0), (35, pp 0), (36, bo (eI .i64) x_b.C.Regs), (37, .ptr 1 [] 1), (38, ii x_i.A), (39, pp 0), (40, pp 0), (41, bo (eI .i64) x_b.C.Regs), (42, .agg (C_76 x_i))])) (H' := [(0, some ⟨43, (B_43 x_b)⟩), (1, some ⟨76, (C_76 x_i)⟩), (2, some q1)]) (n' := 3) (fs' := none) (pre := (List.take 9 Lf96_r13)) (L' := (List.drop 9 Lf96_r13)) (by kernel_rfl) (fun K => by kernel_rfl) .nil ?_
   obtain ⟨v7, hv7, hh⟩ := bind_some hh
   refine ds (.call 104 [(.t 41), (.t 42)]) (some 43) (ydo_n rfl (op_call (r := ii v7) (v := ii v7) (Hr := []) (n' := 3) (impl_counted_fn hv7) (clz_v (vs := [bo (eI .i64) x_b.C.Regs, .agg (C_76 x_i)]) (by kernel_rfl) (clz_c (clo_same (clean_bor (cleans_fl cl_eI))) (cz1 clz_n))) rfl rfl (by kernel_rfl) ⟨⟨agr_name (n := 3) (n0 := 3) (r := ii v7) (v := ii v7) (Hr := []) (n' := 3) (by kernel_rfl) (by decide), Hld.un ?_⟩⟩))
   obtain ⟨v8, hv8, hh⟩ := bind_some hh
   refine ds (.call 103 [(.t 36), (.t 38), (.t 43)]) (some 44) (ydo_n rfl (op_call (r := .own 3 1 (List.length v8) (fl (eI .i64) v8)) (v := sw 3 v8) (Hr := [(3, some ⟨3, (fl (eI .i64) v8)⟩)]) (n' := 4) (impl_changed_fn hv8) (clz_v (vs := [bo (eI .i64) x_b.C.Regs, ii x_i.A, ii v7]) (by kernel_rfl) (clz_c (clo_same (clean_bor (cleans_fl cl_eI))) (cz1 (cz1 clz_n)))) (by simp only [AV.noRef, noRefs, Bool.and_self, noRefs_fl nr_eI]) (by simp only [AV.noBor, noBors, Bool.and_self, noBors_fl nb_eI]) (by kernel_rfl) ⟨⟨agr_name (n := 3) (n0 := 3) (r := .own 3 1 (List.length v8) (fl (eI .i64) v8)) (v := sw 3 v8) (Hr := [(3, some ⟨3, (fl (eI .i64) v8)⟩)]) (n' := 4) (by kernel_rfl) (by decide), Hld.un ?_⟩⟩))
   refine dct (cs := []) (E' := (sp 49 [(2, pp 0), (3, pp 1), (4, pp 2), (28, bb s5), (34, pp 0), (35, pp 0), (36, bo (eI .i64) x_b.C.Regs), (37, .ptr 1 [] 1), (38, ii x_i.A), (39, pp 0), (40, pp 0), (41, bo (eI .i64) x_b.C.Regs), (42, .agg (C_76 x_i)), (43, ii v7), (44, sw 3 v8), (45, pp 0), (46, pp 0)])) (H' := [(3, some ⟨3, (fl (eI .i64) v8)⟩), (0, some ⟨43, (B_43 x_b)⟩), (1, some ⟨76, (C_76 x_i)⟩), (2, some q1)]) (n' := 4) (fun K => by kernel_rfl) .nil ?_
   let q3 : Root := ⟨43, (sw 3 v8 :: ru39 x_b.C [bo (eI .i64) x_b.Mem, bo (eI .i64) x_b.In, bo (eI .i64) x_b.Out])⟩
   refine yt (sp 49 [(2, pp 0), (4, pp 2)]) [(0, some q3), (2, some q1), (3, some ⟨3, (fl (eI .i64) v8)⟩)] 4 ?_
   let q4 : Root := ⟨43, (bo (eI .i64) v8 :: ru39 x_b.C [bo (eI .i64) x_b.Mem, bo (eI .i64) x_b.In, bo (eI .i64) x_b.Out])⟩
   refine Aw.freeze 3 (cs := (fl (eI .i64) v8)) (e := 3) (env2 := sp 49 [(2, pp 0), (4, pp 2)]) (H2 := [(0, some q4), (2, some q1)]) (by kernel_rfl) (noOwn_fl no_eI) (frs_sp (by kernel_rfl) (fl_c (u := pp 0) (by kernel_rfl) (.same _) (fl_c (u := pp 2) (by kernel_rfl) (.same _) fl_n))) (hf_c (t := q3) rfl (by kernel_rfl) rfl (frs_c (fr_all len_eI (by first | rfl | omega | (simp only [List.length_set, over_len, List.length_replicate, List.length_append, List.length_cons, List.length_nil, List.length_take, List.length_drop] <;> omega))) (frs_c (.same _) (frs_c (.same _) (frs_c (.same _) (frs_c (.same _) (frs_c (.same _) (frs_c (.same _) (frs_c (.same _) (frs_c (.same _) (frs_c (.same _) (frs_c (.same _) (frs_c (.same _) (frs_c (.same _) (frs_c (.same _) (frs_c (.same _) (frs_c (.same _) frs_n)))))))))))))))) (hf_c (t := q1) rfl (by kernel_rfl) rfl (frs_c (.same _) (frs_c (.same _) (frs_c (.same _) (frs_c (.same _) (frs_c (.same _) (frs_c (.same _) (frs_c (.same _) (frs_c (.same _) (frs_c (.same _) (frs_c (.same _) (frs_c (.same _) (frs_c (.same _) (frs_c (.same _) (frs_c (.same _) (frs_c (.same _) (frs_c (.same _) frs_n)))))))))))))))) hf_n)) ?_
   refine Aw.sreg [4] [2] (yj 1  (sp 49 [(2, pp 0), (4, pp 2), (47, .agg (bo (eI .i64) v8 :: ru39 x_b.C [bo (eI .i64) x_b.Mem, bo (eI .i64) x_b.In, bo (eI .i64) x_b.Out]))]) [(0, some q4), (2, some q1)] 4 ?_)
   obtain ⟨v9, hv9, hh⟩ := bind_some hh
   refine ys (.call 105 [(.t 47)]) (some 48) (op_callp (r := .agg (B_43 v9)) (v := .agg (B_43 v9)) (Hr := []) (n' := 4) (impl_wentOn_fn hv9) (clz_v (vs := [.agg (bo (eI .i64) v8 :: ru39 x_b.C [bo (eI .i64) x_b.Mem, bo (eI .i64) x_b.In, bo (eI .i64) x_b.Out])]) (by kernel_rfl) (clz_c (clo_agg (clos_c (clo_same (clean_bor (cleans_fl cl_eI))) (cs1 (cs1 (cs1 (cs1 (cs1 (cs1 (cs1 (cs1 (cs1 (cs1 (cs1 (cs1 (clos_c (clo_same (clean_bor (cleans_fl cl_eI))) (clos_c (clo_same (clean_bor (cleans_fl cl_eI))) (clos_c (clo_same (clean_bor (cleans_fl cl_eI))) clos_n))))))))))))))))) clz_n)) (by simp only [ru39, AV.noRef, noRefs, Bool.and_self, noRefs_fl nr_eI, nr_B_43]) (by kernel_rfl) ?_)
   refine yt (sp 49 [(4, pp 2)]) [(2, some ⟨43, (B_43 v9)⟩)] 4 ?_
   refine Aw.ret ?_
   rw [some_some hh]
   exact gives (r' := .agg (B_43 v9)) (by kernel_rfl) (Ent.clov (.one _ _ (clo_same (clean_agg (cl_B_43 _)))))
 intro Q5 hN5 hR5 hE5
 refine sy [2, 3, 4, 6, 28] [0, 1, 2] (sp 49 [(2, pp 0), (3, pp 1), (4, pp 2), (6, ii x_i.Op), (28, bb (decide (x_i.Op = (5 : Int))))]) [(0, some ⟨43, (B_43 x_b)⟩), (1, some ⟨76, (C_76 x_i)⟩), (2, some q1)] 3 ?_
 rcases cond_some hh with ⟨hb, hh⟩ | ⟨hb, hh⟩
 · refine cT hb ?_
   refine Aw.skip ?_
   obtain rfl := some_some hh
   exact hN5 (decide (x_i.Op = (5 : Int))) _ _ _ hk5 (Ent.list2 [some 0, some 1, some 2] rfl rfl (by decide) (rens_sp (by kernel_rfl) (rl_c (u := pp 0) (by kernel_rfl) (ren_p (by decide) rfl) (rl_c (u := pp 1) (by kernel_rfl) (ren_p (by decide) rfl) (rl_c (u := pp 2) (by kernel_rfl) (ren_p (by decide) rfl) (rl_c (u := bb (decide (x_i.Op = (5 : Int)))) (by kernel_rfl) ren_b rl_n))))) (hq ⟨43, (B_43 x_b)⟩ (rens_same (nr_B_43 _)) (hq ⟨76, (C_76 x_i)⟩ (rens_same (nr_C_76 _)) (hq q1 (rens_c ren_nil (rens_i (rens_i (rens_i (rens_i (rens_b (rens_i (rens_i (rens_i (rens_b (rens_b (rens_b (rens_b (rens_c ren_nil (rens_c ren_nil (rens_c ren_nil rens_n)))))))))))))))) hs_nil))))
 refine cF hb ?_
 refine Aw.oreg ?_
 refine ye (sp 49 [(2, pp 0), (3, pp 1), (4, pp 2), (6, ii x_i.Op), (28, bb (decide (x_i.Op = (6 : Int)))), (30, bb (decide (x_i.Op = (6 : Int))))]) [(0, some ⟨43, (B_43 x_b)⟩), (1, some ⟨76, (C_76 x_i)⟩), (2, some q1)] 3 ?_
 obtain rfl := some_some hh
 exact hN5 (decide (x_i.Op = (6 : Int))) _ _ _ hk5 (Ent.list2 [some 0, some 1, some 2] rfl rfl (by decide) (rens_sp (by kernel_rfl) (rl_c (u := pp 0) (by kernel_rfl) (ren_p (by decide) rfl) (rl_c (u := pp 1) (by kernel_rfl) (ren_p (by decide) rfl) (rl_c (u := pp 2) (by kernel_rfl) (ren_p (by decide) rfl) (rl_c (u := bb (decide (x_i.Op = (6 : Int)))) (by kernel_rfl) ren_b rl_n))))) (hq ⟨43, (B_43 x_b)⟩ (rens_same (nr_B_43 _)) (hq ⟨76, (C_76 x_i)⟩ (rens_same (nr_C_76 _)) (hq q1 (rens_c ren_nil (rens_i (rens_i (rens_i (rens_i (rens_b (rens_i (rens_i (rens_i (rens_b (rens_b (rens_b (rens_b (rens_c ren_nil (rens_c ren_nil (rens_c ren_nil rens_n)))))))))))))))) hs_nil))))
def Lf106_r0 : List LOper := [oo 1 (.box 39 (.t 0)), oo 2 (.fresh 39 [.nil, (ii 0), (ii 0), (ii 0), (ii 0), (bb false), (ii 0), (ii 0), (ii 0), (bb false), (bb false), (bb false), (bb false)])]
def Lf106_r1 : List LOper := [oo 3 (.fadr 4 (.t 1)), oo 4 (.load false 1 (.t 3)), oo 5 (.fadr 1 (.t 1)), ⟨none, (.store 1 (.t 5) (.t 4)), none⟩]
def Lf106_r2 : List LOper := [oo 6 (.fadr 5 (.t 1)), oo 7 (.load false 1 (.t 6)), oo 8 (.fadr 10 (.t 1)), ⟨none, (.store 1 (.t 8) (.t 7)), none⟩]
def Lf106_r3 : List LOper := [oo 9 (.fadr 11 (.t 1)), ⟨none, (.store 1 (.t 9) (.c (bb true))), none⟩]
def Lf106_r4 : List LOper := [oo 10 (.load true 13 (.t 1)), ⟨none, (.store 13 (.t 2) (.t 10)), none⟩]
def Lf106 : LFun := ⟨11, [(.cell 2 true 13)], (.seq (.reg false Lf106_r0) (.seq (.reg false Lf106_r1) (.seq (.reg false Lf106_r2) (.seq (.reg false Lf106_r3) (.seq (.reg false Lf106_r4) .ret)))))⟩
theorem low_impl_wentBack : lowFun Go.Proofs.Try.prog 106 = some Lf106 := by kernel_rfl
noncomputable def F_impl_wentBack (x_c : DCore) : Option DCore :=
 some (DCore.mk x_c.Regs x_c.Saved x_c.Root x_c.Vector x_c.Saved x_c.SavedUser x_c.Cause x_c.Bad x_c.Timer x_c.Waits x_c.SavedUser true x_c.Stopped)
theorem impl_wentBack_fn {x_c : DCore} {R_ : DCore} (hh : F_impl_wentBack x_c = some R_) : Fn Try.prog 106 [.agg (B_39 x_c)] (.agg (bo (eI .i64) R_.Regs :: ru39 R_ [])) := by
 unfold F_impl_wentBack at hh
 refine Fn.start low_impl_wentBack [0] (E := sp 11 [(0, .agg (B_39 x_c))]) (by kernel_rfl) (v := .agg (bo (eI .i64) R_.Regs :: ru39 R_ [])) (Hr := []) (k := 0) (by kernel_rfl) ?_
 refine sy [1, 2] [0, 1] (sp 11 [(1, pp 0), (2, pp 1)]) [(0, some ⟨39, (B_39 x_c)⟩), (1, some ⟨39, (.nil :: zru39 [])⟩)] 2 ?_
 refine sy [1, 2] [0, 1] (sp 11 [(1, pp 0), (2, pp 1)]) [(0, some ⟨39, [bo (eI .i64) x_c.Regs, ii x_c.Saved, ii x_c.Root, ii x_c.Vector, ii x_c.Saved, bb x_c.SavedUser, ii x_c.Cause, ii x_c.Bad, ii x_c.Timer, bb x_c.Waits, bb x_c.User, bb x_c.On, bb x_c.Stopped]⟩), (1, some ⟨39, (.nil :: zru39 [])⟩)] 2 ?_
 refine sy [1, 2] [0, 1] (sp 11 [(1, pp 0), (2, pp 1)]) [(0, some ⟨39, [bo (eI .i64) x_c.Regs, ii x_c.Saved, ii x_c.Root, ii x_c.Vector, ii x_c.Saved, bb x_c.SavedUser, ii x_c.Cause, ii x_c.Bad, ii x_c.Timer, bb x_c.Waits, bb x_c.SavedUser, bb x_c.On, bb x_c.Stopped]⟩), (1, some ⟨39, (.nil :: zru39 [])⟩)] 2 ?_
 refine Aw.sreg [1, 2] [0, 1] ?_
 let q1 : Root := ⟨39, [bo (eI .i64) x_c.Regs, ii x_c.Saved, ii x_c.Root, ii x_c.Vector, ii x_c.Saved, bb x_c.SavedUser, ii x_c.Cause, ii x_c.Bad, ii x_c.Timer, bb x_c.Waits, bb x_c.SavedUser, bb true, bb x_c.Stopped]⟩
 refine yt (sp 11 [(1, pp 0), (2, pp 1)]) [(0, some q1), (1, some ⟨39, (.nil :: zru39 [])⟩)] 2 ?_
 refine sy [2] [1] (sp 11 [(2, pp 1)]) [(1, some q1)] 2 ?_
 refine Aw.ret ?_
 rw [some_some hh]
 exact gives (r' := .agg [bo (eI .i64) x_c.Regs, ii x_c.Saved, ii x_c.Root, ii x_c.Vector, ii x_c.Saved, bb x_c.SavedUser, ii x_c.Cause, ii x_c.Bad, ii x_c.Timer, bb x_c.Waits, bb x_c.SavedUser, bb true, bb x_c.Stopped]) (by kernel_rfl) (Ent.clov (.one _ _ (clo_agg (clos_c (clo_same (clean_bor (cleans_fl cl_eI))) (cs1 (cs1 (cs1 (cs1 (cs1 (cs1 (cs1 (cs1 (cs1 (cs1 (cs1 (cs1 clos_n))))))))))))))))
def Lf107_r0 : List LOper := [oo 2 (.mv (.c (ii 0)))]
def Lf107_r1 : List LOper := [om 4 0, oo 5 (.bin .rem (.t 4) (.c (ii 16))), om 3 5]
def Lf107_r2 : List LOper := [om 6 3, oo 7 (.call 56 [(.t 6)]), oo 8 (.un .not (.t 7))]
def Lf107_r3 : List LOper := [oo 2 (.mv (.c (ii (-1))))]
def Lf107_r4 : List LOper := [om 9 3, om 2 9]
def Lf107 : LFun := ⟨10, [(.tmp 2)], (.seq (.reg false Lf107_r0) (.seq (.reg false Lf107_r1) (.seq (.seq (.reg false Lf107_r2) (.cond (.t 8) (.seq (.reg false Lf107_r3) .ret) .skip)) (.seq (.reg false Lf107_r4) .ret))))⟩
theorem low_impl_rootFrom : lowFun Go.Proofs.Try.prog 107 = some Lf107 := by kernel_rfl
noncomputable def F_impl_rootFrom (x_word : Int) : Option Int :=
 Option.bind (F_impl_pageOk (Int.tmod x_word (16 : Int))) fun v1 =>
 cond (!v1)
  (some (-1 : Int))
  (some (Int.tmod x_word (16 : Int)))
theorem impl_rootFrom_fn {x_word : Int} {R_ : Int} (hh : F_impl_rootFrom x_word = some R_) : Fn Try.prog 107 [.int .i64 x_word] (.int .i64 R_) := by
 unfold F_impl_rootFrom at hh
 refine Fn.start low_impl_rootFrom [0] (E := sp 10 [(0, ii x_word)]) (by kernel_rfl) (v := ii R_) (Hr := []) (k := 0) (by kernel_rfl) ?_
 refine sy [0] [] (sp 10 [(0, ii x_word)]) [] 0 ?_
 refine Aw.sreg [3] [] ?_
 refine ytc [(16 : Int) ≠ 0] (sp 10 [(3, ii (Int.tmod x_word (16 : Int)))]) [] 0 (.cons (by decide) .nil) ?_
 refine Aw.seq ?_
 refine Aw.sreg [3, 8] [] (yj 1  (sp 10 [(3, ii (Int.tmod x_word (16 : Int))), (6, ii (Int.tmod x_word (16 : Int)))]) [] 0 ?_)
 obtain ⟨v1, hv1, hh⟩ := bind_some hh
 refine ys (.call 56 [(.t 6)]) (some 7) (oc (impl_pageOk_fn hv1) ?_)
 refine yt (sp 10 [(3, ii (Int.tmod x_word (16 : Int))), (8, bb (!v1))]) [] 0 ?_
 rcases cond_some hh with ⟨hb, hh⟩ | ⟨hb, hh⟩
 · refine cT hb ?_
   refine sy [2] [] (sp 10 [(2, ii (-1))]) [] 0 ?_
   refine Aw.ret ?_
   refine then_r ?_
   rw [some_some hh]
   exact gvi
 refine cF hb ?_
 refine Aw.xskip (fun _ _ _ hq => then_m hq) ?_
 refine sy [2] [] (sp 10 [(2, ii (Int.tmod x_word (16 : Int)))]) [] 0 ?_
 refine Aw.ret ?_
 rw [some_some hh]
 exact gvi
def Lf108_r0 : List LOper := [oo 4 (.mv (.c .nil))]
def Lf108_r1 : List LOper := [om 5 0, oo 6 (.len (.t 5)), oo 7 (.bin .geq (.t 6) (.c (ii 30)))]
def Lf108_r2 : List LOper := [om 8 0, om 4 8]
def Lf108_r3 : List LOper := [om 9 0, oo 10 (.call 88 [(.t 9)]), om 11 1, oo 12 (.bsl 3 1 1 [(ii 0)] [(0, (1, (.t 11)))]), oo 13 (.app 3 1 8 [(ii 0)] (.t 10) (.t 12)), om 4 13]
def Lf108 : LFun := ⟨14, [(.tmp 4)], (.seq (.reg false Lf108_r0) (.seq (.seq (.reg false Lf108_r1) (.cond (.t 7) (.seq (.reg false Lf108_r2) .ret) .skip)) (.seq (.reg false Lf108_r3) .ret)))⟩
theorem low_impl_wentOut : lowFun Go.Proofs.Try.prog 108 = some Lf108 := by kernel_rfl
noncomputable def F_impl_wentOut (x_out : List Int) (x_word : Int) : Option (List Int) :=
 cond (decide ((30 : Int) ≤ (((List.length x_out) : Nat) : Int)))
  (some x_out)
  (Option.bind (F_impl_copied x_out) fun v1 =>
  grd ((List.length v1 + List.length ([x_word] : List Int)) * 8 ≤ 2 ^ 47 ∧ List.length v1 + List.length ([x_word] : List Int) ≤ 2 ^ 47) (some (v1 ++ ([x_word] : List Int))))
theorem impl_wentOut_fn {x_out : List Int} {x_word : Int} {R_ : (List Int)} (hh : F_impl_wentOut x_out x_word = some R_) : Fn Try.prog 108 [bo (eI .i64) x_out, .int .i64 x_word] (bo (eI .i64) R_) := by
 unfold F_impl_wentOut at hh
 refine Fn.start low_impl_wentOut [0, 1] (E := sp 14 [(0, bo (eI .i64) x_out), (1, ii x_word)]) (by kernel_rfl) (v := bo (eI .i64) R_) (Hr := []) (k := 0) (by kernel_rfl) ?_
 refine sy [0, 1] [] (sp 14 [(0, bo (eI .i64) x_out), (1, ii x_word)]) [] 0 ?_
 refine Aw.seq ?_
 refine sy [0, 1, 7] [] (sp 14 [(0, bo (eI .i64) x_out), (1, ii x_word), (7, bb (decide ((30 : Int) ≤ (((List.length x_out) : Nat) : Int))))]) [] 0 ?_
 rcases cond_some hh with ⟨hb, hh⟩ | ⟨hb, hh⟩
 · refine cT hb ?_
   refine sy [4] [] (sp 14 [(4, bo (eI .i64) x_out)]) [] 0 ?_
   refine Aw.ret ?_
   refine then_r ?_
   rw [some_some hh]
   exact gives (r' := bo (eI .i64) x_out) (by kernel_rfl) (Ent.clov (.one _ _ (clo_same (clean_bor (cleans_fl cl_eI)))))
 refine cF hb ?_
 refine Aw.xskip (fun _ _ _ hq => then_m hq) ?_
 refine Aw.sreg [4] [2] (yj 1  (sp 14 [(0, bo (eI .i64) x_out), (1, ii x_word), (7, bb (decide ((30 : Int) ≤ (((List.length x_out) : Nat) : Int)))), (9, bo (eI .i64) x_out)]) [] 0 ?_)
 obtain ⟨v1, hv1, hh⟩ := bind_some hh
 refine ys (.call 88 [(.t 9)]) (some 10) (op_call (r := .own 3 1 (List.length v1) (fl (eI .i64) v1)) (v := sw 0 v1) (Hr := [(0, some ⟨3, (fl (eI .i64) v1)⟩)]) (n' := 1) (impl_copied_fn hv1) (clz_v (vs := [bo (eI .i64) x_out]) (by kernel_rfl) (clz_c (clo_same (clean_bor (cleans_fl cl_eI))) clz_n)) (by simp only [AV.noRef, noRefs, Bool.and_self, noRefs_fl nr_eI]) (by simp only [AV.noBor, noBors, Bool.and_self, noBors_fl nb_eI]) (by kernel_rfl) ?_)
 refine yu 2 [(10, sw 0 v1), (11, ii x_word), (12, .sref 1 [] 0 1 1)] [(1, some ⟨3, [ii x_word]⟩), (0, some ⟨3, (fl (eI .i64) v1)⟩)] 2 ?_
 obtain ⟨hg2, hh⟩ := grd_some hh
 refine ys (.app 3 1 8 [(ii 0)] (.t 10) (.t 12)) (some 13) (op_app (c := (eI .i64)) (xs := v1) (ys := ([x_word] : List Int)) (r := 0) (k := (List.length v1)) (π := []) (by first | rfl | omega | (simp only [List.length_set, over_len, List.length_replicate, List.length_append, List.length_cons, List.length_nil, List.length_take, List.length_drop] <;> omega)) len_eI (by kernel_rfl) (by kernel_rfl) (by kernel_rfl) hg2 ?_)
 refine yt (sp 14 [(4, .sref 2 [] 0 (List.length (v1 ++ ([x_word] : List Int))) 1)]) [(2, some ⟨3, (fl (eI .i64) (v1 ++ ([x_word] : List Int)))⟩)] 3 ?_
 refine Aw.ret ?_
 rw [some_some hh]
 exact gives (r' := .sref 2 [] 0 (List.length (v1 ++ ([x_word] : List Int))) 1) (by kernel_rfl) (Ent.clov (.one _ _ (clo_own (c := (eI .i64)) (xs := (v1 ++ ([x_word] : List Int))) (e := 3) (by first | rfl | omega | (simp only [List.length_set, over_len, List.length_replicate, List.length_append, List.length_cons, List.length_nil, List.length_take, List.length_drop] <;> omega)) len_eI no_eI cl_eI (by kernel_rfl))))
def Lf111_r0 : List LOper := [oo 2 (.box 43 (.t 0)), oo 4 (.mv (.c (ii 0)))]
def Lf111_r1 : List LOper := [om 5 1]
def Lf111_r2 : List LOper := [oo 7 (.bin .eql (.t 5) (.c (ii 1))), om 6 7]
def Lf111_r3 : List LOper := [oo 8 (.fadr 0 (.t 2)), oo 9 (.fadr 6 (.t 8)), oo 10 (.load false 1 (.t 9)), om 4 10]
def Lf111_r4 : List LOper := [oo 12 (.bin .eql (.t 5) (.c (ii 2))), om 11 12]
def Lf111_r5 : List LOper := [oo 13 (.fadr 0 (.t 2)), oo 14 (.fadr 7 (.t 13)), oo 15 (.load false 1 (.t 14)), om 4 15]
def Lf111_r6 : List LOper := [oo 17 (.bin .eql (.t 5) (.c (ii 3))), om 16 17]
def Lf111_r7 : List LOper := [oo 18 (.fadr 0 (.t 2)), oo 19 (.fadr 4 (.t 18)), oo 20 (.load false 1 (.t 19)), om 4 20]
def Lf111_r8 : List LOper := [oo 21 (.fadr 14 (.t 2)), oo 22 (.load false 1 (.t 21)), oo 23 (.len (.t 22)), oo 24 (.bin .eql (.t 23) (.c (ii 0)))]
def Lf111_r9 : List LOper := [oo 4 (.mv (.c (ii 0)))]
def Lf111_r10 : List LOper := [oo 25 (.fadr 14 (.t 2)), oo 26 (.load false 1 (.t 25)), oo 27 (.iadr 1 (.t 26) (.c (ii 0))), oo 28 (.load false 1 (.t 27)), om 4 28]
def Lf111 : LFun := ⟨29, [(.tmp 4)], (.seq (.reg false Lf111_r0) (.seq (.seq (.reg false Lf111_r1) (.block 0 (.seq (.reg false Lf111_r2) (.cond (.t 6) (.seq (.reg false Lf111_r3) .ret) (.seq (.reg false Lf111_r4) (.cond (.t 11) (.seq (.reg false Lf111_r5) .ret) (.seq (.reg false Lf111_r6) (.cond (.t 16) (.seq (.reg false Lf111_r7) .ret) .skip)))))))) (.seq (.seq (.reg false Lf111_r8) (.cond (.t 24) (.seq (.reg false Lf111_r9) .ret) .skip)) (.seq (.reg false Lf111_r10) .ret))))⟩
theorem low_impl_comesIn : lowFun Go.Proofs.Try.prog 111 = some Lf111 := by kernel_rfl
noncomputable def F_impl_comesIn (x_b : DBare) (x_kind : Int) : Option Int :=
 cond (decide (x_kind = (1 : Int)))
  (some x_b.C.Cause)
  (cond (decide (x_kind = (2 : Int)))
   (some x_b.C.Bad)
   (cond (decide (x_kind = (3 : Int)))
    (some x_b.C.Saved)
    (cond (decide ((((List.length x_b.In) : Nat) : Int) = (0 : Int)))
     (some (0 : Int))
     (grd ((0 : Int) ≤ (0 : Int) ∧ (0 : Int) < ((List.length x_b.In : Nat) : Int)) (some (List.getD x_b.In (Int.toNat (0 : Int)) default))))))
theorem impl_comesIn_fn {x_b : DBare} {x_kind : Int} {R_ : Int} (hh : F_impl_comesIn x_b x_kind = some R_) : Fn Try.prog 111 [.agg (B_43 x_b), .int .i64 x_kind] (.int .i64 R_) := by
 unfold F_impl_comesIn at hh
 refine Fn.start low_impl_comesIn [0, 1] (E := sp 29 [(0, .agg (B_43 x_b)), (1, ii x_kind)]) (by kernel_rfl) (v := ii R_) (Hr := []) (k := 0) (by kernel_rfl) ?_
 refine sy [1, 2] [0] (sp 29 [(1, ii x_kind), (2, pp 0)]) [(0, some ⟨43, (B_43 x_b)⟩)] 1 ?_
 refine Aw.seq ?_
 refine sy [2, 5] [0] (sp 29 [(2, pp 0), (5, ii x_kind)]) [(0, some ⟨43, (B_43 x_b)⟩)] 1 ?_
 refine Aw.block ?_
 refine sy [2, 5, 6] [0] (sp 29 [(2, pp 0), (5, ii x_kind), (6, bb (decide (x_kind = (1 : Int))))]) [(0, some ⟨43, (B_43 x_b)⟩)] 1 ?_
 rcases cond_some hh with ⟨hb, hh⟩ | ⟨hb, hh⟩
 · refine cT hb ?_
   refine sy [4] [] (sp 29 [(4, ii x_b.C.Cause)]) [] 1 ?_
   refine Aw.ret ?_
   refine blk_r (then_r ?_)
   rw [some_some hh]
   exact gvi
 refine cF hb ?_
 refine sy [2, 5, 11] [0] (sp 29 [(2, pp 0), (5, ii x_kind), (11, bb (decide (x_kind = (2 : Int))))]) [(0, some ⟨43, (B_43 x_b)⟩)] 1 ?_
 rcases cond_some hh with ⟨hb, hh⟩ | ⟨hb, hh⟩
 · refine cT hb ?_
   refine sy [4] [] (sp 29 [(4, ii x_b.C.Bad)]) [] 1 ?_
   refine Aw.ret ?_
   refine blk_r (then_r ?_)
   rw [some_some hh]
   exact gvi
 refine cF hb ?_
 refine sy [2, 16] [0] (sp 29 [(2, pp 0), (16, bb (decide (x_kind = (3 : Int))))]) [(0, some ⟨43, (B_43 x_b)⟩)] 1 ?_
 rcases cond_some hh with ⟨hb, hh⟩ | ⟨hb, hh⟩
 · refine cT hb ?_
   refine sy [4] [] (sp 29 [(4, ii x_b.C.Saved)]) [] 1 ?_
   refine Aw.ret ?_
   refine blk_r (then_r ?_)
   rw [some_some hh]
   exact gvi
 refine cF hb ?_
 refine Aw.xskip (fun _ _ _ hq => blk_m (then_m hq)) ?_
 refine Aw.seq ?_
 refine sy [2, 24] [0] (sp 29 [(2, pp 0), (24, bb (decide ((((List.length x_b.In) : Nat) : Int) = (0 : Int))))]) [(0, some ⟨43, (B_43 x_b)⟩)] 1 ?_
 rcases cond_some hh with ⟨hb, hh⟩ | ⟨hb, hh⟩
 · refine cT hb ?_
   refine sy [4] [] (sp 29 [(4, ii 0)]) [] 1 ?_
   refine Aw.ret ?_
   refine then_r ?_
   rw [some_some hh]
   exact gvi
 refine cF hb ?_
 refine Aw.xskip (fun _ _ _ hq => then_m hq) ?_
 refine Aw.sreg [4] [] (yj 2  (sp 29 [(2, pp 0), (24, bb (decide ((((List.length x_b.In) : Nat) : Int) = (0 : Int)))), (25, .ptr 0 [] 14), (26, bo (eI .i64) x_b.In)]) [(0, some ⟨43, (B_43 x_b)⟩)] 1 ?_)
 obtain ⟨hg2, hh⟩ := grd_some hh
 refine ys (.iadr 1 (.t 26) (.c (ii 0))) (some 27) (op_iadr (kd := .i64) (c := (eI .i64)) (xs := x_b.In) len_eI (by decide) (by kernel_rfl) (by kernel_rfl) hg2 ?_)
 refine ys (.load false 1 (.t 27)) (some 28) (op_loadb (c := (eI .i64)) (xs := x_b.In) (o := Int.toNat (0 : Int) * 1) (i := (Int.toNat (0 : Int))) (off := 0) (v := ii (List.getD x_b.In (Int.toNat (0 : Int)) default)) len_eI (by kernel_rfl) (by omega) (by omega) (by decide) (by kernel_rfl) ?_)
 refine yt (sp 29 [(4, ii (List.getD x_b.In (Int.toNat (0 : Int)) default))]) [] 1 ?_
 refine Aw.ret ?_
 rw [some_some hh]
 exact gvi
def Lf109_r0 : List LOper := [oo 2 (.box 43 (.t 0)), oo 3 (.box 76 (.t 1)), oo 4 (.fresh 43 [.nil, (ii 0), (ii 0), (ii 0), (ii 0), (bb false), (ii 0), (ii 0), (ii 0), (bb false), (bb false), (bb false), (bb false), .nil, .nil, .nil])]
def Lf109_r1 : List LOper := [oo 6 (.fadr 2 (.t 3)), oo 7 (.load false 1 (.t 6)), oo 8 (.bin .rem (.t 7) (.c (ii 4))), om 5 8]
def Lf109_r2 : List LOper := [oo 9 (.fadr 0 (.t 2)), oo 10 (.fadr 0 (.t 9)), oo 11 (.load false 1 (.t 10)), oo 12 (.fadr 1 (.t 3)), oo 13 (.load false 1 (.t 12)), oo 14 (.load true 16 (.t 2)), om 15 5, oo 16 (.call 111 [(.t 14), (.t 15)]), oo 17 (.call 103 [(.t 11), (.t 13), (.t 16)]), oo 18 (.fadr 0 (.t 2)), oo 19 (.fadr 0 (.t 18))]
def Lf109_r2t : List LOper := [⟨none, (.store 1 (.t 19) (.t 17)), none⟩]
def Lf109_r4 : List LOper := [om 20 5, oo 21 (.bin .eql (.t 20) (.c (ii 0))), om 22 21, ⟨(some 23), (.fadr 14 (.t 2)), (some (22, true))⟩, ⟨(some 24), (.load false 1 (.t 23)), (some (22, true))⟩, ⟨(some 25), (.len (.t 24)), (some (22, true))⟩, ⟨(some 26), (.bin .gtr (.t 25) (.c (ii 0))), (some (22, true))⟩, oo 27 (.pick (.t 22) (.t 26) (.c (bb false)))]
def Lf109_r5 : List LOper := [oo 28 (.fadr 14 (.t 2)), oo 29 (.load false 1 (.t 28)), oo 30 (.slc 1 (.t 29) (some (.c (ii 1))) none), oo 31 (.fadr 14 (.t 2)), ⟨none, (.store 1 (.t 31) (.t 30)), none⟩]
def Lf109_r6 : List LOper := [oo 32 (.load true 16 (.t 2)), ⟨none, (.store 16 (.t 4) (.t 32)), none⟩]
def Lf109 : LFun := ⟨33, [(.cell 4 true 16)], (.seq (.reg false Lf109_r0) (.seq (.reg false Lf109_r1) (.seq (.regd Lf109_r2 Lf109_r2t) (.seq (.seq (.reg false Lf109_r4) (.cond (.t 27) (.reg false Lf109_r5) .skip)) (.seq (.reg false Lf109_r6) .ret)))))⟩
theorem low_impl_tookIn : lowFun Go.Proofs.Try.prog 109 = some Lf109 := by kernel_rfl
noncomputable def F_impl_tookIn_j3 (x_b : DBare) (v2 : (List Int)) (s3 : (List Int)) : Option DBare :=
 some (DBare.mk (DCore.mk v2 x_b.C.Pc x_b.C.Root x_b.C.Vector x_b.C.Saved x_b.C.SavedUser x_b.C.Cause x_b.C.Bad x_b.C.Timer x_b.C.Waits x_b.C.User x_b.C.On x_b.C.Stopped) x_b.Mem s3 x_b.Out)
noncomputable def F_impl_tookIn (x_b : DBare) (x_i : DIns) : Option DBare :=
 Option.bind (F_impl_comesIn x_b (Int.tmod x_i.N (4 : Int))) fun v1 =>
 Option.bind (F_impl_changed x_b.C.Regs x_i.A v1) fun v2 =>
 Option.bind (cond (decide ((Int.tmod x_i.N (4 : Int)) = (0 : Int)))
  (cond (decide ((0 : Int) < (((List.length x_b.In) : Nat) : Int)))
   (grd ((0 : Int) ≤ (1 : Int) ∧ (1 : Int) ≤ ((List.length x_b.In : Nat) : Int) ∧ ((List.length x_b.In : Nat) : Int) ≤ ((List.length x_b.In : Nat) : Int)) (some (.go (List.take (Int.toNat ((List.length x_b.In : Nat) : Int) - Int.toNat (1 : Int)) (List.drop (Int.toNat (1 : Int)) x_b.In)))))
   (some (.go x_b.In)))
  (some (.go x_b.In))) fun j3 =>
  JO.run j3 (F_impl_tookIn_j3 x_b v2)
theorem impl_tookIn_fn {x_b : DBare} {x_i : DIns} {R_ : DBare} (hh : F_impl_tookIn x_b x_i = some R_) : Fn Try.prog 109 [.agg (B_43 x_b), .agg (C_76 x_i)] (.agg (bo (eI .i64) R_.C.Regs :: ru39 R_.C [bo (eI .i64) R_.Mem, bo (eI .i64) R_.In, bo (eI .i64) R_.Out])) := by
 unfold F_impl_tookIn at hh
 refine Fn.start low_impl_tookIn [0, 1] (E := sp 33 [(0, .agg (B_43 x_b)), (1, .agg (C_76 x_i))]) (by kernel_rfl) (v := .agg (bo (eI .i64) R_.C.Regs :: ru39 R_.C [bo (eI .i64) R_.Mem, bo (eI .i64) R_.In, bo (eI .i64) R_.Out])) (Hr := []) (k := 0) (by kernel_rfl) ?_
 refine Aw.sreg [2, 3, 4] [0, 1, 2] ?_
 let q1 : Root := ⟨43, (.nil :: zru39 [.nil, .nil, .nil])⟩
 refine yt (sp 33 [(2, pp 0), (3, pp 1), (4, pp 2)]) [(0, some ⟨43, (B_43 x_b)⟩), (1, some ⟨76, (C_76 x_i)⟩), (2, some q1)] 3 ?_
 refine Aw.sreg [2, 3, 4, 5] [0, 1, 2] ?_
 refine ytc [(4 : Int) ≠ 0] (sp 33 [(2, pp 0), (3, pp 1), (4, pp 2), (5, ii (Int.tmod x_i.N (4 : Int)))]) [(0, some ⟨43, (B_43 x_b)⟩), (1, some ⟨76, (C_76 x_i)⟩), (2, some q1)] 3 (.cons (by decide) .nil) ?_
 refine Aw.sregd [2, 4, 5] [0, 2, 3] [] (by kernel_rfl) ?_
 refine dc (cs := []) (E' := (sp 33 [(2, pp 0), (3, pp 1), (4, pp 2), (5, ii (Int.tmod x_i.N (4 : Int))), (9, pp 0), (10, pp 0), (11, bo (eI .i64) x_b.C.Regs), (12, .ptr 1 [] 1), (13, ii x_i.A), (14, .agg (B_43 x_b)), (15, ii (Int.tmod x_i.N (4 : Int)))])) (H' := [(0, some ⟨43, (B_43 x_b)⟩), (1, some ⟨76, (C_76 x_i)⟩), (2, some q1)]) (n' := 3) (fs' := none) (pre := (List.take 7 Lf109_r2)) (L' := (List.drop 7 Lf109_r2)) (by kernel_rfl) (fun K => by kernel_rfl) .nil ?_
 obtain ⟨v1, hv1, hh⟩ := bind_some hh
 refine ds (.call 111 [(.t 14), (.t 15)]) (some 16) (ydo_n rfl (op_call (r := ii v1) (v := ii v1) (Hr := []) (n' := 3) (impl_comesIn_fn hv1) (clz_v (vs := [.agg (B_43 x_b), ii (Int.tmod x_i.N (4 : Int))]) (by kernel_rfl) (clz_c (clo_same (clean_agg (cl_B_43 _))) (cz1 clz_n))) rfl rfl (by kernel_rfl) ⟨⟨agr_name (n := 3) (n0 := 3) (r := ii v1) (v := ii v1) (Hr := []) (n' := 3) (by kernel_rfl) (by decide), Hld.un ?_⟩⟩))
 obtain ⟨v2, hv2, hh⟩ := bind_some hh
 refine ds (.call 103 [(.t 11), (.t 13), (.t 16)]) (some 17) (ydo_n rfl (op_call (r := .own 3 1 (List.length v2) (fl (eI .i64) v2)) (v := sw 3 v2) (Hr := [(3, some ⟨3, (fl (eI .i64) v2)⟩)]) (n' := 4) (impl_changed_fn hv2) (clz_v (vs := [bo (eI .i64) x_b.C.Regs, ii x_i.A, ii v1]) (by kernel_rfl) (clz_c (clo_same (clean_bor (cleans_fl cl_eI))) (cz1 (cz1 clz_n)))) (by simp only [AV.noRef, noRefs, Bool.and_self, noRefs_fl nr_eI]) (by simp only [AV.noBor, noBors, Bool.and_self, noBors_fl nb_eI]) (by kernel_rfl) ⟨⟨agr_name (n := 3) (n0 := 3) (r := .own 3 1 (List.length v2) (fl (eI .i64) v2)) (v := sw 3 v2) (Hr := [(3, some ⟨3, (fl (eI .i64) v2)⟩)]) (n' := 4) (by kernel_rfl) (by decide), Hld.un ?_⟩⟩))
 refine dct (cs := []) (E' := (sp 33 [(2, pp 0), (3, pp 1), (4, pp 2), (5, ii (Int.tmod x_i.N (4 : Int))), (9, pp 0), (10, pp 0), (11, bo (eI .i64) x_b.C.Regs), (12, .ptr 1 [] 1), (13, ii x_i.A), (14, .agg (B_43 x_b)), (15, ii (Int.tmod x_i.N (4 : Int))), (16, ii v1), (17, sw 3 v2), (18, pp 0), (19, pp 0)])) (H' := [(3, some ⟨3, (fl (eI .i64) v2)⟩), (0, some ⟨43, (B_43 x_b)⟩), (1, some ⟨76, (C_76 x_i)⟩), (2, some q1)]) (n' := 4) (fun K => by kernel_rfl) .nil ?_
 let q2 : Root := ⟨43, (sw 3 v2 :: ru39 x_b.C [bo (eI .i64) x_b.Mem, bo (eI .i64) x_b.In, bo (eI .i64) x_b.Out])⟩
 refine yt (sp 33 [(2, pp 0), (4, pp 2), (5, ii (Int.tmod x_i.N (4 : Int)))]) [(0, some q2), (2, some q1), (3, some ⟨3, (fl (eI .i64) v2)⟩)] 4 ?_
 obtain ⟨j3, hh, hk3⟩ := bind_some hh
 refine Aw.join (S := (List Int)) (fun s3 => sp 33 [(2, pp 0), (4, pp 2)]) (fun s3 => [(0, some ⟨43, (sw 1 v2 :: ru39 x_b.C [bo (eI .i64) x_b.Mem, bo (eI .i64) s3, bo (eI .i64) x_b.Out])⟩), (1, some ⟨3, (fl (eI .i64) v2)⟩), (2, some ⟨43, (.nil :: zru39 [.nil, .nil, .nil])⟩)]) 3 (fun s3 => F_impl_tookIn_j3 x_b v2 s3 = some R_) ?_ ?_
 · intro s3 hh
   unfold F_impl_tookIn_j3 at hh
   refine sy [4] [1, 2] (sp 33 [(4, pp 2)]) [(1, some ⟨3, (fl (eI .i64) v2)⟩), (2, some ⟨43, (sw 1 v2 :: ru39 x_b.C [bo (eI .i64) x_b.Mem, bo (eI .i64) s3, bo (eI .i64) x_b.Out])⟩)] 3 ?_
   refine Aw.ret ?_
   rw [some_some hh]
   exact gives (r' := .agg (sw 1 v2 :: ru39 x_b.C [bo (eI .i64) x_b.Mem, bo (eI .i64) s3, bo (eI .i64) x_b.Out])) (by kernel_rfl) (Ent.clov (.one _ _ (clo_agg (clos_c (clo_own (c := (eI .i64)) (xs := v2) (e := 3) (by first | rfl | omega | (simp only [List.length_set, over_len, List.length_replicate, List.length_append, List.length_cons, List.length_nil, List.length_take, List.length_drop] <;> omega)) len_eI no_eI cl_eI (by kernel_rfl)) (cs1 (cs1 (cs1 (cs1 (cs1 (cs1 (cs1 (cs1 (cs1 (cs1 (cs1 (cs1 (clos_c (clo_same (clean_bor (cleans_fl cl_eI))) (clos_c (clo_same (clean_bor (cleans_fl cl_eI))) (clos_c (clo_same (clean_bor (cleans_fl cl_eI))) clos_n)))))))))))))))))))
 intro Q3 hN3 hR3 hE3
 refine Aw.sreg [2, 4, 27] [0, 2, 3] (yj 3  (sp 33 [(2, pp 0), (4, pp 2), (5, ii (Int.tmod x_i.N (4 : Int))), (20, ii (Int.tmod x_i.N (4 : Int))), (21, bb (decide ((Int.tmod x_i.N (4 : Int)) = (0 : Int)))), (22, bb (decide ((Int.tmod x_i.N (4 : Int)) = (0 : Int))))]) [(0, some q2), (2, some q1), (3, some ⟨3, (fl (eI .i64) v2)⟩)] 4 ?_)
 rcases cond_some hh with ⟨hb, hh⟩ | ⟨hb, hh⟩
 · refine yb 21 hb ?_
   refine yb 22 hb ?_
   refine yt (sp 33 [(2, pp 0), (4, pp 2), (27, bb (decide ((0 : Int) < (((List.length x_b.In) : Nat) : Int))))]) [(0, some q2), (2, some q1), (3, some ⟨3, (fl (eI .i64) v2)⟩)] 4 ?_
   rcases cond_some hh with ⟨hb, hh⟩ | ⟨hb, hh⟩
   · refine cT hb ?_
     refine Aw.oreg ?_
     refine yu 2 [(28, .ptr 0 [] 14), (29, bo (eI .i64) x_b.In)] [(0, some q2), (2, some q1), (3, some ⟨3, (fl (eI .i64) v2)⟩)] 4 ?_
     obtain ⟨hg6, hh⟩ := grd_some hh
     refine ys (.slc 1 (.t 29) (some (.c (ii 1))) none) (some 30) (op_slc (c := (eI .i64)) (xs := x_b.In) (l := (1 : Int)) (h := ((List.length x_b.In : Nat) : Int)) len_eI (by kernel_rfl) (by kernel_rfl) (by kernel_rfl) hg6 ?_)
     let q3 : Root := ⟨43, (sw 3 v2 :: ru39 x_b.C [bo (eI .i64) x_b.Mem, bo (eI .i64) (List.take (Int.toNat ((List.length x_b.In : Nat) : Int) - Int.toNat (1 : Int)) (List.drop (Int.toNat (1 : Int)) x_b.In)), bo (eI .i64) x_b.Out])⟩
     refine ye (sp 33 [(2, pp 0), (4, pp 2), (27, bb (decide ((0 : Int) < (((List.length x_b.In) : Nat) : Int)))), (28, .ptr 0 [] 14), (29, bo (eI .i64) x_b.In), (30, bo (eI .i64) (List.take (Int.toNat ((List.length x_b.In : Nat) : Int) - Int.toNat (1 : Int)) (List.drop (Int.toNat (1 : Int)) x_b.In))), (31, .ptr 0 [] 14)]) [(0, some q3), (0, some q2), (2, some q1), (3, some ⟨3, (fl (eI .i64) v2)⟩)] 4 ?_
     obtain rfl := some_some hh
     exact hN3 (List.take (Int.toNat ((List.length x_b.In : Nat) : Int) - Int.toNat (1 : Int)) (List.drop (Int.toNat (1 : Int)) x_b.In)) _ _ _ hk3 (Ent.list2 [some 0, some 3, some 2] rfl rfl (by decide) (rens_sp (by kernel_rfl) (rl_c (u := pp 0) (by kernel_rfl) (ren_p (by decide) rfl) (rl_c (u := pp 2) (by kernel_rfl) (ren_p (by decide) rfl) rl_n))) (hq q3 (rens_c ren_sx (rens_i (rens_i (rens_i (rens_i (rens_b (rens_i (rens_i (rens_i (rens_b (rens_b (rens_b (rens_b (rens_c (ren_bor (rens_same (noRefs_fl nr_eI))) (rens_c (ren_bor (rens_same (noRefs_fl nr_eI))) (rens_c (ren_bor (rens_same (noRefs_fl nr_eI))) rens_n)))))))))))))))) (hq ⟨3, (fl (eI .i64) v2)⟩ (rens_same (noRefs_fl nr_eI)) (hq q1 (rens_c ren_nil (rens_i (rens_i (rens_i (rens_i (rens_b (rens_i (rens_i (rens_i (rens_b (rens_b (rens_b (rens_b (rens_c ren_nil (rens_c ren_nil (rens_c ren_nil rens_n)))))))))))))))) hs_nil))))
   refine cF hb ?_
   refine Aw.skip ?_
   obtain rfl := some_some hh
   exact hN3 x_b.In _ _ _ hk3 (Ent.list2 [some 0, some 3, some 2] rfl rfl (by decide) (rens_sp (by kernel_rfl) (rl_c (u := pp 0) (by kernel_rfl) (ren_p (by decide) rfl) (rl_c (u := pp 2) (by kernel_rfl) (ren_p (by decide) rfl) rl_n))) (hq q2 (rens_c ren_sx (rens_i (rens_i (rens_i (rens_i (rens_b (rens_i (rens_i (rens_i (rens_b (rens_b (rens_b (rens_b (rens_c (ren_bor (rens_same (noRefs_fl nr_eI))) (rens_c (ren_bor (rens_same (noRefs_fl nr_eI))) (rens_c (ren_bor (rens_same (noRefs_fl nr_eI))) rens_n)))))))))))))))) (hq ⟨3, (fl (eI .i64) v2)⟩ (rens_same (noRefs_fl nr_eI)) (hq q1 (rens_c ren_nil (rens_i (rens_i (rens_i (rens_i (rens_b (rens_i (rens_i (rens_i (rens_b (rens_b (rens_b (rens_b (rens_c ren_nil (rens_c ren_nil (rens_c ren_nil rens_n)))))))))))))))) hs_nil))))
 refine yb 21 hb ?_
 refine yb 22 hb ?_
 refine yt (sp 33 [(2, pp 0), (4, pp 2), (27, bb false)]) [(0, some q2), (2, some q1), (3, some ⟨3, (fl (eI .i64) v2)⟩)] 4 ?_
 refine cF rfl ?_
 refine Aw.skip ?_
 obtain rfl := some_some hh
 exact hN3 x_b.In _ _ _ hk3 (Ent.list2 [some 0, some 3, some 2] rfl rfl (by decide) (rens_sp (by kernel_rfl) (rl_c (u := pp 0) (by kernel_rfl) (ren_p (by decide) rfl) (rl_c (u := pp 2) (by kernel_rfl) (ren_p (by decide) rfl) rl_n))) (hq q2 (rens_c ren_sx (rens_i (rens_i (rens_i (rens_i (rens_b (rens_i (rens_i (rens_i (rens_b (rens_b (rens_b (rens_b (rens_c (ren_bor (rens_same (noRefs_fl nr_eI))) (rens_c (ren_bor (rens_same (noRefs_fl nr_eI))) (rens_c (ren_bor (rens_same (noRefs_fl nr_eI))) rens_n)))))))))))))))) (hq ⟨3, (fl (eI .i64) v2)⟩ (rens_same (noRefs_fl nr_eI)) (hq q1 (rens_c ren_nil (rens_i (rens_i (rens_i (rens_i (rens_b (rens_i (rens_i (rens_i (rens_b (rens_b (rens_b (rens_b (rens_c ren_nil (rens_c ren_nil (rens_c ren_nil rens_n)))))))))))))))) hs_nil))))
def Lf97_r0 : List LOper := [oo 2 (.box 43 (.t 0)), oo 3 (.box 76 (.t 1)), oo 4 (.fresh 43 [.nil, (ii 0), (ii 0), (ii 0), (ii 0), (bb false), (ii 0), (ii 0), (ii 0), (bb false), (bb false), (bb false), (bb false), .nil, .nil, .nil])]
def Lf97_r1 : List LOper := [oo 6 (.fadr 0 (.t 2)), oo 7 (.fadr 0 (.t 6)), oo 8 (.load false 1 (.t 7)), oo 9 (.fadr 1 (.t 3)), oo 10 (.load false 1 (.t 9)), oo 11 (.iadr 1 (.t 8) (.t 10)), oo 12 (.load false 1 (.t 11)), om 5 12]
def Lf97_r2 : List LOper := [oo 13 (.fadr 0 (.t 3)), oo 14 (.load false 1 (.t 13))]
def Lf97_r3 : List LOper := [oo 16 (.bin .eql (.t 14) (.c (ii 0))), om 15 16]
def Lf97_r4 : List LOper := [oo 17 (.fadr 0 (.t 2)), oo 18 (.fadr 12 (.t 17)), ⟨none, (.store 1 (.t 18) (.c (bb true))), none⟩]
def Lf97_r5 : List LOper := [oo 19 (.load true 16 (.t 2)), ⟨none, (.store 16 (.t 4) (.t 19)), none⟩]
def Lf97_r6 : List LOper := [oo 21 (.bin .eql (.t 14) (.c (ii 11))), om 20 21]
def Lf97_r7 : List LOper := [oo 22 (.fadr 0 (.t 2)), oo 23 (.load true 13 (.t 22)), oo 24 (.call 106 [(.t 23)]), oo 25 (.fadr 0 (.t 2)), ⟨none, (.store 13 (.t 25) (.t 24)), none⟩]
def Lf97_r8 : List LOper := [oo 26 (.load true 16 (.t 2)), ⟨none, (.store 16 (.t 4) (.t 26)), none⟩]
def Lf97_r9 : List LOper := [oo 28 (.bin .eql (.t 14) (.c (ii 8))), om 27 28]
def Lf97_r10 : List LOper := [om 29 5, oo 30 (.call 107 [(.t 29)]), oo 31 (.fadr 0 (.t 2)), oo 32 (.fadr 2 (.t 31)), ⟨none, (.store 1 (.t 32) (.t 30)), none⟩]
def Lf97_r11 : List LOper := [oo 34 (.bin .eql (.t 14) (.c (ii 9))), om 33 34]
def Lf97_r12 : List LOper := [om 35 5, oo 36 (.bin .rem (.t 35) (.c (ii 64))), oo 37 (.fadr 0 (.t 2)), oo 38 (.fadr 3 (.t 37)), ⟨none, (.store 1 (.t 38) (.t 36)), none⟩]
def Lf97_r13 : List LOper := [oo 40 (.bin .eql (.t 14) (.c (ii 10))), om 39 40]
def Lf97_r14 : List LOper := [om 41 5, oo 42 (.fadr 0 (.t 2)), oo 43 (.fadr 8 (.t 42)), ⟨none, (.store 1 (.t 43) (.t 41)), none⟩]
def Lf97_r15 : List LOper := [oo 45 (.bin .eql (.t 14) (.c (ii 12))), om 44 45]
def Lf97_r16 : List LOper := [oo 46 (.fadr 2 (.t 3)), oo 47 (.load false 1 (.t 46)), oo 48 (.bin .rem (.t 47) (.c (ii 2))), oo 49 (.bin .eql (.t 48) (.c (ii 1))), oo 50 (.fadr 0 (.t 2)), oo 51 (.fadr 11 (.t 50)), ⟨none, (.store 1 (.t 51) (.t 49)), none⟩]
def Lf97_r17 : List LOper := [oo 53 (.bin .eql (.t 14) (.c (ii 13))), om 52 53]
def Lf97_r18 : List LOper := [oo 54 (.fadr 15 (.t 2)), oo 55 (.load false 1 (.t 54)), om 56 5, oo 57 (.call 108 [(.t 55), (.t 56)]), oo 58 (.fadr 15 (.t 2)), ⟨none, (.store 1 (.t 58) (.t 57)), none⟩]
def Lf97_r19 : List LOper := [oo 60 (.bin .eql (.t 14) (.c (ii 14))), om 59 60]
def Lf97_r20 : List LOper := [oo 61 (.load true 16 (.t 2)), oo 62 (.load true 3 (.t 3)), oo 63 (.call 109 [(.t 61), (.t 62)]), ⟨none, (.store 16 (.t 2) (.t 63)), none⟩]
def Lf97_r21 : List LOper := [oo 64 (.load true 16 (.t 2)), oo 65 (.call 105 [(.t 64)]), ⟨none, (.store 16 (.t 4) (.t 65)), none⟩]
def Lf97 : LFun := ⟨66, [(.cell 4 true 16)], (.seq (.reg false Lf97_r0) (.seq (.reg false Lf97_r1) (.seq (.seq (.reg false Lf97_r2) (.block 0 (.seq (.reg false Lf97_r3) (.cond (.t 15) (.seq (.reg false Lf97_r4) (.seq (.reg false Lf97_r5) .ret)) (.seq (.reg false Lf97_r6) (.cond (.t 20) (.seq (.reg false Lf97_r7) (.seq (.reg false Lf97_r8) .ret)) (.seq (.reg false Lf97_r9) (.cond (.t 27) (.reg false Lf97_r10) (.seq (.reg false Lf97_r11) (.cond (.t 33) (.reg false Lf97_r12) (.seq (.reg false Lf97_r13) (.cond (.t 39) (.reg false Lf97_r14) (.seq (.reg false Lf97_r15) (.cond (.t 44) (.reg false Lf97_r16) (.seq (.reg false Lf97_r17) (.cond (.t 52) (.reg false Lf97_r18) (.seq (.reg false Lf97_r19) (.cond (.t 59) (.reg false Lf97_r20) .skip)))))))))))))))))) (.seq (.reg false Lf97_r21) .ret))))⟩
theorem low_impl_didKernel : lowFun Go.Proofs.Try.prog 97 = some Lf97 := by kernel_rfl
noncomputable def F_impl_didKernel_j1  (s1 : Int × Int × Int × Bool × (List Int) × (List Int) × Int × Int × Bool × Int × Int × Bool × Bool × Bool × (List Int) × (List Int)) : Option DBare :=
 Option.bind (F_impl_wentOn (DBare.mk (DCore.mk s1.2.2.2.2.2.1 s1.2.2.2.2.2.2.1 s1.1 s1.2.1 s1.2.2.2.2.2.2.2.1 s1.2.2.2.2.2.2.2.2.1 s1.2.2.2.2.2.2.2.2.2.1 s1.2.2.2.2.2.2.2.2.2.2.1 s1.2.2.1 s1.2.2.2.2.2.2.2.2.2.2.2.1 s1.2.2.2.2.2.2.2.2.2.2.2.2.1 s1.2.2.2.1 s1.2.2.2.2.2.2.2.2.2.2.2.2.2.1) s1.2.2.2.2.2.2.2.2.2.2.2.2.2.2.1 s1.2.2.2.2.2.2.2.2.2.2.2.2.2.2.2 s1.2.2.2.2.1)) fun v2 =>
 some v2
noncomputable def F_impl_didKernel (x_b : DBare) (x_i : DIns) : Option DBare :=
 grd ((0 : Int) ≤ x_i.A ∧ x_i.A < ((List.length x_b.C.Regs : Nat) : Int)) (Option.bind (cond (decide (x_i.Op = (0 : Int)))
  (some (.out (DBare.mk (DCore.mk x_b.C.Regs x_b.C.Pc x_b.C.Root x_b.C.Vector x_b.C.Saved x_b.C.SavedUser x_b.C.Cause x_b.C.Bad x_b.C.Timer x_b.C.Waits x_b.C.User x_b.C.On true) x_b.Mem x_b.In x_b.Out)))
  (cond (decide (x_i.Op = (11 : Int)))
   (Option.bind (F_impl_wentBack x_b.C) fun v3 =>
   some (.out (DBare.mk v3 x_b.Mem x_b.In x_b.Out)))
   (cond (decide (x_i.Op = (8 : Int)))
    (Option.bind (F_impl_rootFrom (List.getD x_b.C.Regs (Int.toNat x_i.A) default)) fun v4 =>
    some (.go (v4, x_b.C.Vector, x_b.C.Timer, x_b.C.On, x_b.Out, x_b.C.Regs, x_b.C.Pc, x_b.C.Saved, x_b.C.SavedUser, x_b.C.Cause, x_b.C.Bad, x_b.C.Waits, x_b.C.User, x_b.C.Stopped, x_b.Mem, x_b.In)))
    (cond (decide (x_i.Op = (9 : Int)))
     (some (.go (x_b.C.Root, (Int.tmod (List.getD x_b.C.Regs (Int.toNat x_i.A) default) (64 : Int)), x_b.C.Timer, x_b.C.On, x_b.Out, x_b.C.Regs, x_b.C.Pc, x_b.C.Saved, x_b.C.SavedUser, x_b.C.Cause, x_b.C.Bad, x_b.C.Waits, x_b.C.User, x_b.C.Stopped, x_b.Mem, x_b.In)))
     (cond (decide (x_i.Op = (10 : Int)))
      (some (.go (x_b.C.Root, x_b.C.Vector, (List.getD x_b.C.Regs (Int.toNat x_i.A) default), x_b.C.On, x_b.Out, x_b.C.Regs, x_b.C.Pc, x_b.C.Saved, x_b.C.SavedUser, x_b.C.Cause, x_b.C.Bad, x_b.C.Waits, x_b.C.User, x_b.C.Stopped, x_b.Mem, x_b.In)))
      (cond (decide (x_i.Op = (12 : Int)))
       (some (.go (x_b.C.Root, x_b.C.Vector, x_b.C.Timer, (decide ((Int.tmod x_i.N (2 : Int)) = (1 : Int))), x_b.Out, x_b.C.Regs, x_b.C.Pc, x_b.C.Saved, x_b.C.SavedUser, x_b.C.Cause, x_b.C.Bad, x_b.C.Waits, x_b.C.User, x_b.C.Stopped, x_b.Mem, x_b.In)))
       (cond (decide (x_i.Op = (13 : Int)))
        (Option.bind (F_impl_wentOut x_b.Out (List.getD x_b.C.Regs (Int.toNat x_i.A) default)) fun v5 =>
        some (.go (x_b.C.Root, x_b.C.Vector, x_b.C.Timer, x_b.C.On, v5, x_b.C.Regs, x_b.C.Pc, x_b.C.Saved, x_b.C.SavedUser, x_b.C.Cause, x_b.C.Bad, x_b.C.Waits, x_b.C.User, x_b.C.Stopped, x_b.Mem, x_b.In)))
        (cond (decide (x_i.Op = (14 : Int)))
         (Option.bind (F_impl_tookIn x_b x_i) fun v6 =>
         some (.go (v6.C.Root, v6.C.Vector, v6.C.Timer, v6.C.On, v6.Out, v6.C.Regs, v6.C.Pc, v6.C.Saved, v6.C.SavedUser, v6.C.Cause, v6.C.Bad, v6.C.Waits, v6.C.User, v6.C.Stopped, v6.Mem, v6.In)))
         (some (.go (x_b.C.Root, x_b.C.Vector, x_b.C.Timer, x_b.C.On, x_b.Out, x_b.C.Regs, x_b.C.Pc, x_b.C.Saved, x_b.C.SavedUser, x_b.C.Cause, x_b.C.Bad, x_b.C.Waits, x_b.C.User, x_b.C.Stopped, x_b.Mem, x_b.In))))))))))) fun j1 =>
  JO.run j1 (F_impl_didKernel_j1))
theorem impl_didKernel_fn {x_b : DBare} {x_i : DIns} {R_ : DBare} (hh : F_impl_didKernel x_b x_i = some R_) : Fn Try.prog 97 [.agg (B_43 x_b), .agg (C_76 x_i)] (.agg (bo (eI .i64) R_.C.Regs :: ru39 R_.C [bo (eI .i64) R_.Mem, bo (eI .i64) R_.In, bo (eI .i64) R_.Out])) := by
 unfold F_impl_didKernel at hh
 refine Fn.start low_impl_didKernel [0, 1] (E := sp 66 [(0, .agg (B_43 x_b)), (1, .agg (C_76 x_i))]) (by kernel_rfl) (v := .agg (bo (eI .i64) R_.C.Regs :: ru39 R_.C [bo (eI .i64) R_.Mem, bo (eI .i64) R_.In, bo (eI .i64) R_.Out])) (Hr := []) (k := 0) (by kernel_rfl) ?_
 refine Aw.sreg [2, 3, 4] [0, 1, 2] ?_
 let q1 : Root := ⟨43, (.nil :: zru39 [.nil, .nil, .nil])⟩
 refine yt (sp 66 [(2, pp 0), (3, pp 1), (4, pp 2)]) [(0, some ⟨43, (B_43 x_b)⟩), (1, some ⟨76, (C_76 x_i)⟩), (2, some q1)] 3 ?_
 refine Aw.sreg [2, 3, 4, 5] [0, 1, 2] (yu 5 [(6, pp 0), (7, pp 0), (8, bo (eI .i64) x_b.C.Regs), (9, .ptr 1 [] 1), (10, ii x_i.A)] [(0, some ⟨43, (B_43 x_b)⟩), (1, some ⟨76, (C_76 x_i)⟩), (2, some q1)] 3 ?_)
 obtain ⟨hg2, hh⟩ := grd_some hh
 refine ys (.iadr 1 (.t 8) (.t 10)) (some 11) (op_iadr (kd := .i64) (c := (eI .i64)) (xs := x_b.C.Regs) len_eI (by decide) (by kernel_rfl) (by kernel_rfl) hg2 ?_)
 refine ys (.load false 1 (.t 11)) (some 12) (op_loadb (c := (eI .i64)) (xs := x_b.C.Regs) (o := Int.toNat x_i.A * 1) (i := (Int.toNat x_i.A)) (off := 0) (v := ii (List.getD x_b.C.Regs (Int.toNat x_i.A) default)) len_eI (by kernel_rfl) (by omega) (by omega) (by decide) (by kernel_rfl) ?_)
 refine yt (sp 66 [(2, pp 0), (3, pp 1), (4, pp 2), (5, ii (List.getD x_b.C.Regs (Int.toNat x_i.A) default))]) [(0, some ⟨43, (B_43 x_b)⟩), (1, some ⟨76, (C_76 x_i)⟩), (2, some q1)] 3 ?_
 obtain ⟨j1, hh, hk1⟩ := bind_some hh
 refine Aw.join (S := Int × Int × Int × Bool × (List Int) × (List Int) × Int × Int × Bool × Int × Int × Bool × Bool × Bool × (List Int) × (List Int)) (fun s1 => sp 66 [(2, pp 0), (4, pp 1)]) (fun s1 => [(0, some ⟨43, [bo (eI .i64) s1.2.2.2.2.2.1, ii s1.2.2.2.2.2.2.1, ii s1.1, ii s1.2.1, ii s1.2.2.2.2.2.2.2.1, bb s1.2.2.2.2.2.2.2.2.1, ii s1.2.2.2.2.2.2.2.2.2.1, ii s1.2.2.2.2.2.2.2.2.2.2.1, ii s1.2.2.1, bb s1.2.2.2.2.2.2.2.2.2.2.2.1, bb s1.2.2.2.2.2.2.2.2.2.2.2.2.1, bb s1.2.2.2.1, bb s1.2.2.2.2.2.2.2.2.2.2.2.2.2.1, bo (eI .i64) s1.2.2.2.2.2.2.2.2.2.2.2.2.2.2.1, bo (eI .i64) s1.2.2.2.2.2.2.2.2.2.2.2.2.2.2.2, bo (eI .i64) s1.2.2.2.2.1]⟩), (1, some ⟨43, (.nil :: zru39 [.nil, .nil, .nil])⟩)]) 2 (fun s1 => F_impl_didKernel_j1 s1 = some R_) ?_ ?_
 · intro s1 hh
   unfold F_impl_didKernel_j1 at hh
   refine Aw.sreg [4] [1] (yj 1  (sp 66 [(2, pp 0), (4, pp 1), (64, .agg [bo (eI .i64) s1.2.2.2.2.2.1, ii s1.2.2.2.2.2.2.1, ii s1.1, ii s1.2.1, ii s1.2.2.2.2.2.2.2.1, bb s1.2.2.2.2.2.2.2.2.1, ii s1.2.2.2.2.2.2.2.2.2.1, ii s1.2.2.2.2.2.2.2.2.2.2.1, ii s1.2.2.1, bb s1.2.2.2.2.2.2.2.2.2.2.2.1, bb s1.2.2.2.2.2.2.2.2.2.2.2.2.1, bb s1.2.2.2.1, bb s1.2.2.2.2.2.2.2.2.2.2.2.2.2.1, bo (eI .i64) s1.2.2.2.2.2.2.2.2.2.2.2.2.2.2.1, bo (eI .i64) s1.2.2.2.2.2.2.2.2.2.2.2.2.2.2.2, bo (eI .i64) s1.2.2.2.2.1])]) [(0, some ⟨43, [bo (eI .i64) s1.2.2.2.2.2.1, ii s1.2.2.2.2.2.2.1, ii s1.1, ii s1.2.1, ii s1.2.2.2.2.2.2.2.1, bb s1.2.2.2.2.2.2.2.2.1, ii s1.2.2.2.2.2.2.2.2.2.1, ii s1.2.2.2.2.2.2.2.2.2.2.1, ii s1.2.2.1, bb s1.2.2.2.2.2.2.2.2.2.2.2.1, bb s1.2.2.2.2.2.2.2.2.2.2.2.2.1, bb s1.2.2.2.1, bb s1.2.2.2.2.2.2.2.2.2.2.2.2.2.1, bo (eI .i64) s1.2.2.2.2.2.2.2.2.2.2.2.2.2.2.1, bo (eI .i64) s1.2.2.2.2.2.2.2.2.2.2.2.2.2.2.2, bo (eI .i64) s1.2.2.2.2.1]⟩), (1, some q1)] 2 ?_)
   obtain ⟨v2, hv2, hh⟩ := bind_some hh
   refine ys (.call 105 [(.t 64)]) (some 65) (op_callp (r := .agg (B_43 v2)) (v := .agg (B_43 v2)) (Hr := []) (n' := 2) (impl_wentOn_fn hv2) (clz_v (vs := [.agg [bo (eI .i64) s1.2.2.2.2.2.1, ii s1.2.2.2.2.2.2.1, ii s1.1, ii s1.2.1, ii s1.2.2.2.2.2.2.2.1, bb s1.2.2.2.2.2.2.2.2.1, ii s1.2.2.2.2.2.2.2.2.2.1, ii s1.2.2.2.2.2.2.2.2.2.2.1, ii s1.2.2.1, bb s1.2.2.2.2.2.2.2.2.2.2.2.1, bb s1.2.2.2.2.2.2.2.2.2.2.2.2.1, bb s1.2.2.2.1, bb s1.2.2.2.2.2.2.2.2.2.2.2.2.2.1, bo (eI .i64) s1.2.2.2.2.2.2.2.2.2.2.2.2.2.2.1, bo (eI .i64) s1.2.2.2.2.2.2.2.2.2.2.2.2.2.2.2, bo (eI .i64) s1.2.2.2.2.1]]) (by kernel_rfl) (clz_c (clo_agg (clos_c (clo_same (clean_bor (cleans_fl cl_eI))) (cs1 (cs1 (cs1 (cs1 (cs1 (cs1 (cs1 (cs1 (cs1 (cs1 (cs1 (cs1 (clos_c (clo_same (clean_bor (cleans_fl cl_eI))) (clos_c (clo_same (clean_bor (cleans_fl cl_eI))) (clos_c (clo_same (clean_bor (cleans_fl cl_eI))) clos_n))))))))))))))))) clz_n)) (by simp only [AV.noRef, noRefs, Bool.and_self, noRefs_fl nr_eI, nr_B_43]) (by kernel_rfl) ?_)
   refine yt (sp 66 [(4, pp 1)]) [(1, some ⟨43, (B_43 v2)⟩)] 2 ?_
   refine Aw.ret ?_
   rw [some_some hh]
   exact gives (r' := .agg (B_43 v2)) (by kernel_rfl) (Ent.clov (.one _ _ (clo_same (clean_agg (cl_B_43 _)))))
 intro Q1 hN1 hR1 hE1
 refine sy [2, 3, 4, 5, 14] [0, 1, 2] (sp 66 [(2, pp 0), (3, pp 1), (4, pp 2), (5, ii (List.getD x_b.C.Regs (Int.toNat x_i.A) default)), (14, ii x_i.Op)]) [(0, some ⟨43, (B_43 x_b)⟩), (1, some ⟨76, (C_76 x_i)⟩), (2, some q1)] 3 ?_
 refine Aw.block ?_
 refine sy [2, 3, 4, 5, 14, 15] [0, 1, 2] (sp 66 [(2, pp 0), (3, pp 1), (4, pp 2), (5, ii (List.getD x_b.C.Regs (Int.toNat x_i.A) default)), (14, ii x_i.Op), (15, bb (decide (x_i.Op = (0 : Int))))]) [(0, some ⟨43, (B_43 x_b)⟩), (1, some ⟨76, (C_76 x_i)⟩), (2, some q1)] 3 ?_
 rcases cond_some hh with ⟨hb, hh⟩ | ⟨hb, hh⟩
 · refine cT hb ?_
   refine Aw.sreg [2, 4] [0, 2] ?_
   let q2 : Root := ⟨43, [bo (eI .i64) x_b.C.Regs, ii x_b.C.Pc, ii x_b.C.Root, ii x_b.C.Vector, ii x_b.C.Saved, bb x_b.C.SavedUser, ii x_b.C.Cause, ii x_b.C.Bad, ii x_b.C.Timer, bb x_b.C.Waits, bb x_b.C.User, bb x_b.C.On, bb true, bo (eI .i64) x_b.Mem, bo (eI .i64) x_b.In, bo (eI .i64) x_b.Out]⟩
   refine yt (sp 66 [(2, pp 0), (4, pp 2)]) [(0, some q2), (2, some q1)] 3 ?_
   refine sy [4] [2] (sp 66 [(4, pp 2)]) [(2, some q2)] 3 ?_
   refine Aw.ret ?_
   refine blk_r ?_
   obtain rfl := some_some hh
   refine hR1 _ _ _ ?_
   refine ?_
   rw [some_some hk1]
   exact gives (r' := .agg [bo (eI .i64) x_b.C.Regs, ii x_b.C.Pc, ii x_b.C.Root, ii x_b.C.Vector, ii x_b.C.Saved, bb x_b.C.SavedUser, ii x_b.C.Cause, ii x_b.C.Bad, ii x_b.C.Timer, bb x_b.C.Waits, bb x_b.C.User, bb x_b.C.On, bb true, bo (eI .i64) x_b.Mem, bo (eI .i64) x_b.In, bo (eI .i64) x_b.Out]) (by kernel_rfl) (Ent.clov (.one _ _ (clo_agg (clos_c (clo_same (clean_bor (cleans_fl cl_eI))) (cs1 (cs1 (cs1 (cs1 (cs1 (cs1 (cs1 (cs1 (cs1 (cs1 (cs1 (cs1 (clos_c (clo_same (clean_bor (cleans_fl cl_eI))) (clos_c (clo_same (clean_bor (cleans_fl cl_eI))) (clos_c (clo_same (clean_bor (cleans_fl cl_eI))) clos_n)))))))))))))))))))
 refine cF hb ?_
 refine sy [2, 3, 4, 5, 14, 20] [0, 1, 2] (sp 66 [(2, pp 0), (3, pp 1), (4, pp 2), (5, ii (List.getD x_b.C.Regs (Int.toNat x_i.A) default)), (14, ii x_i.Op), (20, bb (decide (x_i.Op = (11 : Int))))]) [(0, some ⟨43, (B_43 x_b)⟩), (1, some ⟨76, (C_76 x_i)⟩), (2, some q1)] 3 ?_
 rcases cond_some hh with ⟨hb, hh⟩ | ⟨hb, hh⟩
 · refine cT hb ?_
   refine Aw.sreg [2, 4] [0, 2] (yu 2 [(22, pp 0), (23, .agg (B_39 x_b.C))] [(0, some ⟨43, (B_43 x_b)⟩), (1, some ⟨76, (C_76 x_i)⟩), (2, some q1)] 3 ?_)
   obtain ⟨v3, hv3, hh⟩ := bind_some hh
   refine ys (.call 106 [(.t 23)]) (some 24) (op_callp (r := .agg (B_39 v3)) (v := .agg (B_39 v3)) (Hr := []) (n' := 3) (impl_wentBack_fn hv3) (clz_v (vs := [.agg (B_39 x_b.C)]) (by kernel_rfl) (clz_c (clo_same (clean_agg (cl_B_39 _))) clz_n)) (by simp only [AV.noRef, noRefs, Bool.and_self, noRefs_fl nr_eI, nr_B_39]) (by kernel_rfl) ?_)
   let q3 : Root := ⟨43, (bo (eI .i64) v3.Regs :: ru39 v3 [bo (eI .i64) x_b.Mem, bo (eI .i64) x_b.In, bo (eI .i64) x_b.Out])⟩
   refine yt (sp 66 [(2, pp 0), (4, pp 2)]) [(0, some q3), (2, some q1)] 3 ?_
   refine sy [4] [2] (sp 66 [(4, pp 2)]) [(2, some q3)] 3 ?_
   refine Aw.ret ?_
   refine blk_r ?_
   obtain rfl := some_some hh
   refine hR1 _ _ _ ?_
   refine ?_
   rw [some_some hk1]
   exact gives (r' := .agg (bo (eI .i64) v3.Regs :: ru39 v3 [bo (eI .i64) x_b.Mem, bo (eI .i64) x_b.In, bo (eI .i64) x_b.Out])) (by kernel_rfl) (Ent.clov (.one _ _ (clo_agg (clos_c (clo_same (clean_bor (cleans_fl cl_eI))) (cs1 (cs1 (cs1 (cs1 (cs1 (cs1 (cs1 (cs1 (cs1 (cs1 (cs1 (cs1 (clos_c (clo_same (clean_bor (cleans_fl cl_eI))) (clos_c (clo_same (clean_bor (cleans_fl cl_eI))) (clos_c (clo_same (clean_bor (cleans_fl cl_eI))) clos_n)))))))))))))))))))
 refine cF hb ?_
 refine sy [2, 3, 4, 5, 14, 27] [0, 1, 2] (sp 66 [(2, pp 0), (3, pp 1), (4, pp 2), (5, ii (List.getD x_b.C.Regs (Int.toNat x_i.A) default)), (14, ii x_i.Op), (27, bb (decide (x_i.Op = (8 : Int))))]) [(0, some ⟨43, (B_43 x_b)⟩), (1, some ⟨76, (C_76 x_i)⟩), (2, some q1)] 3 ?_
 rcases cond_some hh with ⟨hb, hh⟩ | ⟨hb, hh⟩
 · refine cT hb ?_
   refine Aw.oreg ?_
   refine yu 1 [(29, ii (List.getD x_b.C.Regs (Int.toNat x_i.A) default))] [(0, some ⟨43, (B_43 x_b)⟩), (1, some ⟨76, (C_76 x_i)⟩), (2, some q1)] 3 ?_
   obtain ⟨v4, hv4, hh⟩ := bind_some hh
   refine ys (.call 107 [(.t 29)]) (some 30) (oc (impl_rootFrom_fn hv4) ?_)
   let q4 : Root := ⟨43, [bo (eI .i64) x_b.C.Regs, ii x_b.C.Pc, ii v4, ii x_b.C.Vector, ii x_b.C.Saved, bb x_b.C.SavedUser, ii x_b.C.Cause, ii x_b.C.Bad, ii x_b.C.Timer, bb x_b.C.Waits, bb x_b.C.User, bb x_b.C.On, bb x_b.C.Stopped, bo (eI .i64) x_b.Mem, bo (eI .i64) x_b.In, bo (eI .i64) x_b.Out]⟩
   refine ye (sp 66 [(2, pp 0), (3, pp 1), (4, pp 2), (5, ii (List.getD x_b.C.Regs (Int.toNat x_i.A) default)), (14, ii x_i.Op), (27, bb (decide (x_i.Op = (8 : Int)))), (29, ii (List.getD x_b.C.Regs (Int.toNat x_i.A) default)), (30, ii v4), (31, pp 0), (32, .ptr 0 [] 2)]) [(0, some q4), (0, some ⟨43, (B_43 x_b)⟩), (1, some ⟨76, (C_76 x_i)⟩), (2, some q1)] 3 ?_
   refine blk_m ?_
   obtain rfl := some_some hh
   exact hN1 (v4, x_b.C.Vector, x_b.C.Timer, x_b.C.On, x_b.Out, x_b.C.Regs, x_b.C.Pc, x_b.C.Saved, x_b.C.SavedUser, x_b.C.Cause, x_b.C.Bad, x_b.C.Waits, x_b.C.User, x_b.C.Stopped, x_b.Mem, x_b.In) _ _ _ hk1 (Ent.list2 [some 0, some 2] rfl rfl (by decide) (rens_sp (by kernel_rfl) (rl_c (u := pp 0) (by kernel_rfl) (ren_p (by decide) rfl) (rl_c (u := pp 2) (by kernel_rfl) (ren_p (by decide) rfl) rl_n))) (hq q4 (rens_c (ren_bor (rens_same (noRefs_fl nr_eI))) (rens_i (rens_i (rens_i (rens_i (rens_b (rens_i (rens_i (rens_i (rens_b (rens_b (rens_b (rens_b (rens_c (ren_bor (rens_same (noRefs_fl nr_eI))) (rens_c (ren_bor (rens_same (noRefs_fl nr_eI))) (rens_c (ren_bor (rens_same (noRefs_fl nr_eI))) rens_n)))))))))))))))) (hq q1 (rens_c ren_nil (rens_i (rens_i (rens_i (rens_i (rens_b (rens_i (rens_i (rens_i (rens_b (rens_b (rens_b (rens_b (rens_c ren_nil (rens_c ren_nil (rens_c ren_nil rens_n)))))))))))))))) hs_nil)))
 refine cF hb ?_
 refine sy [2, 3, 4, 5, 14, 33] [0, 1, 2] (sp 66 [(2, pp 0), (3, pp 1), (4, pp 2), (5, ii (List.getD x_b.C.Regs (Int.toNat x_i.A) default)), (14, ii x_i.Op), (33, bb (decide (x_i.Op = (9 : Int))))]) [(0, some ⟨43, (B_43 x_b)⟩), (1, some ⟨76, (C_76 x_i)⟩), (2, some q1)] 3 ?_
 rcases cond_some hh with ⟨hb, hh⟩ | ⟨hb, hh⟩
 · refine cT hb ?_
   refine Aw.oreg ?_
   let q5 : Root := ⟨43, [bo (eI .i64) x_b.C.Regs, ii x_b.C.Pc, ii x_b.C.Root, ii (Int.tmod (List.getD x_b.C.Regs (Int.toNat x_i.A) default) (64 : Int)), ii x_b.C.Saved, bb x_b.C.SavedUser, ii x_b.C.Cause, ii x_b.C.Bad, ii x_b.C.Timer, bb x_b.C.Waits, bb x_b.C.User, bb x_b.C.On, bb x_b.C.Stopped, bo (eI .i64) x_b.Mem, bo (eI .i64) x_b.In, bo (eI .i64) x_b.Out]⟩
   refine yec [(64 : Int) ≠ 0] (sp 66 [(2, pp 0), (3, pp 1), (4, pp 2), (5, ii (List.getD x_b.C.Regs (Int.toNat x_i.A) default)), (14, ii x_i.Op), (33, bb (decide (x_i.Op = (9 : Int)))), (35, ii (List.getD x_b.C.Regs (Int.toNat x_i.A) default)), (36, ii (Int.tmod (List.getD x_b.C.Regs (Int.toNat x_i.A) default) (64 : Int))), (37, pp 0), (38, .ptr 0 [] 3)]) [(0, some q5), (0, some ⟨43, (B_43 x_b)⟩), (1, some ⟨76, (C_76 x_i)⟩), (2, some q1)] 3 (.cons (by decide) .nil) ?_
   refine blk_m ?_
   obtain rfl := some_some hh
   exact hN1 (x_b.C.Root, (Int.tmod (List.getD x_b.C.Regs (Int.toNat x_i.A) default) (64 : Int)), x_b.C.Timer, x_b.C.On, x_b.Out, x_b.C.Regs, x_b.C.Pc, x_b.C.Saved, x_b.C.SavedUser, x_b.C.Cause, x_b.C.Bad, x_b.C.Waits, x_b.C.User, x_b.C.Stopped, x_b.Mem, x_b.In) _ _ _ hk1 (Ent.list2 [some 0, some 2] rfl rfl (by decide) (rens_sp (by kernel_rfl) (rl_c (u := pp 0) (by kernel_rfl) (ren_p (by decide) rfl) (rl_c (u := pp 2) (by kernel_rfl) (ren_p (by decide) rfl) rl_n))) (hq q5 (rens_c (ren_bor (rens_same (noRefs_fl nr_eI))) (rens_i (rens_i (rens_i (rens_i (rens_b (rens_i (rens_i (rens_i (rens_b (rens_b (rens_b (rens_b (rens_c (ren_bor (rens_same (noRefs_fl nr_eI))) (rens_c (ren_bor (rens_same (noRefs_fl nr_eI))) (rens_c (ren_bor (rens_same (noRefs_fl nr_eI))) rens_n)))))))))))))))) (hq q1 (rens_c ren_nil (rens_i (rens_i (rens_i (rens_i (rens_b (rens_i (rens_i (rens_i (rens_b (rens_b (rens_b (rens_b (rens_c ren_nil (rens_c ren_nil (rens_c ren_nil rens_n)))))))))))))))) hs_nil)))
 refine cF hb ?_
 refine sy [2, 3, 4, 5, 14, 39] [0, 1, 2] (sp 66 [(2, pp 0), (3, pp 1), (4, pp 2), (5, ii (List.getD x_b.C.Regs (Int.toNat x_i.A) default)), (14, ii x_i.Op), (39, bb (decide (x_i.Op = (10 : Int))))]) [(0, some ⟨43, (B_43 x_b)⟩), (1, some ⟨76, (C_76 x_i)⟩), (2, some q1)] 3 ?_
 rcases cond_some hh with ⟨hb, hh⟩ | ⟨hb, hh⟩
 · refine cT hb ?_
   refine Aw.oreg ?_
   let q6 : Root := ⟨43, [bo (eI .i64) x_b.C.Regs, ii x_b.C.Pc, ii x_b.C.Root, ii x_b.C.Vector, ii x_b.C.Saved, bb x_b.C.SavedUser, ii x_b.C.Cause, ii x_b.C.Bad, ii (List.getD x_b.C.Regs (Int.toNat x_i.A) default), bb x_b.C.Waits, bb x_b.C.User, bb x_b.C.On, bb x_b.C.Stopped, bo (eI .i64) x_b.Mem, bo (eI .i64) x_b.In, bo (eI .i64) x_b.Out]⟩
   refine ye (sp 66 [(2, pp 0), (3, pp 1), (4, pp 2), (5, ii (List.getD x_b.C.Regs (Int.toNat x_i.A) default)), (14, ii x_i.Op), (39, bb (decide (x_i.Op = (10 : Int)))), (41, ii (List.getD x_b.C.Regs (Int.toNat x_i.A) default)), (42, pp 0), (43, .ptr 0 [] 8)]) [(0, some q6), (0, some ⟨43, (B_43 x_b)⟩), (1, some ⟨76, (C_76 x_i)⟩), (2, some q1)] 3 ?_
   refine blk_m ?_
   obtain rfl := some_some hh
   exact hN1 (x_b.C.Root, x_b.C.Vector, (List.getD x_b.C.Regs (Int.toNat x_i.A) default), x_b.C.On, x_b.Out, x_b.C.Regs, x_b.C.Pc, x_b.C.Saved, x_b.C.SavedUser, x_b.C.Cause, x_b.C.Bad, x_b.C.Waits, x_b.C.User, x_b.C.Stopped, x_b.Mem, x_b.In) _ _ _ hk1 (Ent.list2 [some 0, some 2] rfl rfl (by decide) (rens_sp (by kernel_rfl) (rl_c (u := pp 0) (by kernel_rfl) (ren_p (by decide) rfl) (rl_c (u := pp 2) (by kernel_rfl) (ren_p (by decide) rfl) rl_n))) (hq q6 (rens_c (ren_bor (rens_same (noRefs_fl nr_eI))) (rens_i (rens_i (rens_i (rens_i (rens_b (rens_i (rens_i (rens_i (rens_b (rens_b (rens_b (rens_b (rens_c (ren_bor (rens_same (noRefs_fl nr_eI))) (rens_c (ren_bor (rens_same (noRefs_fl nr_eI))) (rens_c (ren_bor (rens_same (noRefs_fl nr_eI))) rens_n)))))))))))))))) (hq q1 (rens_c ren_nil (rens_i (rens_i (rens_i (rens_i (rens_b (rens_i (rens_i (rens_i (rens_b (rens_b (rens_b (rens_b (rens_c ren_nil (rens_c ren_nil (rens_c ren_nil rens_n)))))))))))))))) hs_nil)))
 refine cF hb ?_
 refine sy [2, 3, 4, 5, 14, 44] [0, 1, 2] (sp 66 [(2, pp 0), (3, pp 1), (4, pp 2), (5, ii (List.getD x_b.C.Regs (Int.toNat x_i.A) default)), (14, ii x_i.Op), (44, bb (decide (x_i.Op = (12 : Int))))]) [(0, some ⟨43, (B_43 x_b)⟩), (1, some ⟨76, (C_76 x_i)⟩), (2, some q1)] 3 ?_
 rcases cond_some hh with ⟨hb, hh⟩ | ⟨hb, hh⟩
 · refine cT hb ?_
   refine Aw.oreg ?_
   let q7 : Root := ⟨43, [bo (eI .i64) x_b.C.Regs, ii x_b.C.Pc, ii x_b.C.Root, ii x_b.C.Vector, ii x_b.C.Saved, bb x_b.C.SavedUser, ii x_b.C.Cause, ii x_b.C.Bad, ii x_b.C.Timer, bb x_b.C.Waits, bb x_b.C.User, bb (decide ((Int.tmod x_i.N (2 : Int)) = (1 : Int))), bb x_b.C.Stopped, bo (eI .i64) x_b.Mem, bo (eI .i64) x_b.In, bo (eI .i64) x_b.Out]⟩
   refine yec [(2 : Int) ≠ 0] (sp 66 [(2, pp 0), (3, pp 1), (4, pp 2), (5, ii (List.getD x_b.C.Regs (Int.toNat x_i.A) default)), (14, ii x_i.Op), (44, bb (decide (x_i.Op = (12 : Int)))), (46, .ptr 1 [] 2), (47, ii x_i.N), (48, ii (Int.tmod x_i.N (2 : Int))), (49, bb (decide ((Int.tmod x_i.N (2 : Int)) = (1 : Int)))), (50, pp 0), (51, .ptr 0 [] 11)]) [(0, some q7), (0, some ⟨43, (B_43 x_b)⟩), (1, some ⟨76, (C_76 x_i)⟩), (2, some q1)] 3 (.cons (by decide) .nil) ?_
   refine blk_m ?_
   obtain rfl := some_some hh
   exact hN1 (x_b.C.Root, x_b.C.Vector, x_b.C.Timer, (decide ((Int.tmod x_i.N (2 : Int)) = (1 : Int))), x_b.Out, x_b.C.Regs, x_b.C.Pc, x_b.C.Saved, x_b.C.SavedUser, x_b.C.Cause, x_b.C.Bad, x_b.C.Waits, x_b.C.User, x_b.C.Stopped, x_b.Mem, x_b.In) _ _ _ hk1 (Ent.list2 [some 0, some 2] rfl rfl (by decide) (rens_sp (by kernel_rfl) (rl_c (u := pp 0) (by kernel_rfl) (ren_p (by decide) rfl) (rl_c (u := pp 2) (by kernel_rfl) (ren_p (by decide) rfl) rl_n))) (hq q7 (rens_c (ren_bor (rens_same (noRefs_fl nr_eI))) (rens_i (rens_i (rens_i (rens_i (rens_b (rens_i (rens_i (rens_i (rens_b (rens_b (rens_b (rens_b (rens_c (ren_bor (rens_same (noRefs_fl nr_eI))) (rens_c (ren_bor (rens_same (noRefs_fl nr_eI))) (rens_c (ren_bor (rens_same (noRefs_fl nr_eI))) rens_n)))))))))))))))) (hq q1 (rens_c ren_nil (rens_i (rens_i (rens_i (rens_i (rens_b (rens_i (rens_i (rens_i (rens_b (rens_b (rens_b (rens_b (rens_c ren_nil (rens_c ren_nil (rens_c ren_nil rens_n)))))))))))))))) hs_nil)))
 refine cF hb ?_
 refine sy [2, 3, 4, 5, 14, 52] [0, 1, 2] (sp 66 [(2, pp 0), (3, pp 1), (4, pp 2), (5, ii (List.getD x_b.C.Regs (Int.toNat x_i.A) default)), (14, ii x_i.Op), (52, bb (decide (x_i.Op = (13 : Int))))]) [(0, some ⟨43, (B_43 x_b)⟩), (1, some ⟨76, (C_76 x_i)⟩), (2, some q1)] 3 ?_
 rcases cond_some hh with ⟨hb, hh⟩ | ⟨hb, hh⟩
 · refine cT hb ?_
   refine Aw.oreg ?_
   refine yu 3 [(54, .ptr 0 [] 15), (55, bo (eI .i64) x_b.Out), (56, ii (List.getD x_b.C.Regs (Int.toNat x_i.A) default))] [(0, some ⟨43, (B_43 x_b)⟩), (1, some ⟨76, (C_76 x_i)⟩), (2, some q1)] 3 ?_
   obtain ⟨v5, hv5, hh⟩ := bind_some hh
   refine ys (.call 108 [(.t 55), (.t 56)]) (some 57) (op_callp (r := bo (eI .i64) v5) (v := bo (eI .i64) v5) (Hr := []) (n' := 3) (impl_wentOut_fn hv5) (clz_v (vs := [bo (eI .i64) x_b.Out, ii (List.getD x_b.C.Regs (Int.toNat x_i.A) default)]) (by kernel_rfl) (clz_c (clo_same (clean_bor (cleans_fl cl_eI))) (cz1 clz_n))) (by simp only [AV.noRef, noRefs, Bool.and_self, noRefs_fl nr_eI]) (by kernel_rfl) ?_)
   let q8 : Root := ⟨43, (bo (eI .i64) x_b.C.Regs :: ru39 x_b.C [bo (eI .i64) x_b.Mem, bo (eI .i64) x_b.In, bo (eI .i64) v5])⟩
   refine ye (sp 66 [(2, pp 0), (3, pp 1), (4, pp 2), (5, ii (List.getD x_b.C.Regs (Int.toNat x_i.A) default)), (14, ii x_i.Op), (52, bb (decide (x_i.Op = (13 : Int)))), (54, .ptr 0 [] 15), (55, bo (eI .i64) x_b.Out), (56, ii (List.getD x_b.C.Regs (Int.toNat x_i.A) default)), (57, bo (eI .i64) v5), (58, .ptr 0 [] 15)]) [(0, some q8), (0, some ⟨43, (B_43 x_b)⟩), (1, some ⟨76, (C_76 x_i)⟩), (2, some q1)] 3 ?_
   refine blk_m ?_
   obtain rfl := some_some hh
   exact hN1 (x_b.C.Root, x_b.C.Vector, x_b.C.Timer, x_b.C.On, v5, x_b.C.Regs, x_b.C.Pc, x_b.C.Saved, x_b.C.SavedUser, x_b.C.Cause, x_b.C.Bad, x_b.C.Waits, x_b.C.User, x_b.C.Stopped, x_b.Mem, x_b.In) _ _ _ hk1 (Ent.list2 [some 0, some 2] rfl rfl (by decide) (rens_sp (by kernel_rfl) (rl_c (u := pp 0) (by kernel_rfl) (ren_p (by decide) rfl) (rl_c (u := pp 2) (by kernel_rfl) (ren_p (by decide) rfl) rl_n))) (hq q8 (rens_c (ren_bor (rens_same (noRefs_fl nr_eI))) (rens_i (rens_i (rens_i (rens_i (rens_b (rens_i (rens_i (rens_i (rens_b (rens_b (rens_b (rens_b (rens_c (ren_bor (rens_same (noRefs_fl nr_eI))) (rens_c (ren_bor (rens_same (noRefs_fl nr_eI))) (rens_c (ren_bor (rens_same (noRefs_fl nr_eI))) rens_n)))))))))))))))) (hq q1 (rens_c ren_nil (rens_i (rens_i (rens_i (rens_i (rens_b (rens_i (rens_i (rens_i (rens_b (rens_b (rens_b (rens_b (rens_c ren_nil (rens_c ren_nil (rens_c ren_nil rens_n)))))))))))))))) hs_nil)))
 refine cF hb ?_
 refine sy [2, 3, 4, 59] [0, 1, 2] (sp 66 [(2, pp 0), (3, pp 1), (4, pp 2), (59, bb (decide (x_i.Op = (14 : Int))))]) [(0, some ⟨43, (B_43 x_b)⟩), (1, some ⟨76, (C_76 x_i)⟩), (2, some q1)] 3 ?_
 rcases cond_some hh with ⟨hb, hh⟩ | ⟨hb, hh⟩
 · refine cT hb ?_
   refine Aw.oreg ?_
   refine yu 2 [(61, .agg (B_43 x_b)), (62, .agg (C_76 x_i))] [(0, some ⟨43, (B_43 x_b)⟩), (1, some ⟨76, (C_76 x_i)⟩), (2, some q1)] 3 ?_
   obtain ⟨v6, hv6, hh⟩ := bind_some hh
   refine ys (.call 109 [(.t 61), (.t 62)]) (some 63) (op_callp (r := .agg (B_43 v6)) (v := .agg (B_43 v6)) (Hr := []) (n' := 3) (impl_tookIn_fn hv6) (clz_v (vs := [.agg (B_43 x_b), .agg (C_76 x_i)]) (by kernel_rfl) (clz_c (clo_same (clean_agg (cl_B_43 _))) (cz1 clz_n))) (by simp only [AV.noRef, noRefs, Bool.and_self, noRefs_fl nr_eI, nr_B_43]) (by kernel_rfl) ?_)
   refine ye (sp 66 [(2, pp 0), (3, pp 1), (4, pp 2), (59, bb (decide (x_i.Op = (14 : Int)))), (61, .agg (B_43 x_b)), (62, .agg (C_76 x_i)), (63, .agg (B_43 v6))]) [(0, some ⟨43, (B_43 v6)⟩), (0, some ⟨43, (B_43 x_b)⟩), (1, some ⟨76, (C_76 x_i)⟩), (2, some q1)] 3 ?_
   refine blk_m ?_
   obtain rfl := some_some hh
   exact hN1 (v6.C.Root, v6.C.Vector, v6.C.Timer, v6.C.On, v6.Out, v6.C.Regs, v6.C.Pc, v6.C.Saved, v6.C.SavedUser, v6.C.Cause, v6.C.Bad, v6.C.Waits, v6.C.User, v6.C.Stopped, v6.Mem, v6.In) _ _ _ hk1 (Ent.list2 [some 0, some 2] rfl rfl (by decide) (rens_sp (by kernel_rfl) (rl_c (u := pp 0) (by kernel_rfl) (ren_p (by decide) rfl) (rl_c (u := pp 2) (by kernel_rfl) (ren_p (by decide) rfl) rl_n))) (hq ⟨43, (B_43 v6)⟩ (rens_c (ren_bor (rens_same (noRefs_fl nr_eI))) (rens_i (rens_i (rens_i (rens_i (rens_b (rens_i (rens_i (rens_i (rens_b (rens_b (rens_b (rens_b (rens_c (ren_bor (rens_same (noRefs_fl nr_eI))) (rens_c (ren_bor (rens_same (noRefs_fl nr_eI))) (rens_c (ren_bor (rens_same (noRefs_fl nr_eI))) rens_n)))))))))))))))) (hq q1 (rens_c ren_nil (rens_i (rens_i (rens_i (rens_i (rens_b (rens_i (rens_i (rens_i (rens_b (rens_b (rens_b (rens_b (rens_c ren_nil (rens_c ren_nil (rens_c ren_nil rens_n)))))))))))))))) hs_nil)))
 refine cF hb ?_
 refine Aw.skip ?_
 refine blk_m ?_
 obtain rfl := some_some hh
 exact hN1 (x_b.C.Root, x_b.C.Vector, x_b.C.Timer, x_b.C.On, x_b.Out, x_b.C.Regs, x_b.C.Pc, x_b.C.Saved, x_b.C.SavedUser, x_b.C.Cause, x_b.C.Bad, x_b.C.Waits, x_b.C.User, x_b.C.Stopped, x_b.Mem, x_b.In) _ _ _ hk1 (Ent.list2 [some 0, some 2] rfl rfl (by decide) (rens_sp (by kernel_rfl) (rl_c (u := pp 0) (by kernel_rfl) (ren_p (by decide) rfl) (rl_c (u := pp 2) (by kernel_rfl) (ren_p (by decide) rfl) rl_n))) (hq ⟨43, (B_43 x_b)⟩ (rens_c (ren_bor (rens_same (noRefs_fl nr_eI))) (rens_i (rens_i (rens_i (rens_i (rens_b (rens_i (rens_i (rens_i (rens_b (rens_b (rens_b (rens_b (rens_c (ren_bor (rens_same (noRefs_fl nr_eI))) (rens_c (ren_bor (rens_same (noRefs_fl nr_eI))) (rens_c (ren_bor (rens_same (noRefs_fl nr_eI))) rens_n)))))))))))))))) (hq q1 (rens_c ren_nil (rens_i (rens_i (rens_i (rens_i (rens_b (rens_i (rens_i (rens_i (rens_b (rens_b (rens_b (rens_b (rens_c ren_nil (rens_c ren_nil (rens_c ren_nil rens_n)))))))))))))))) hs_nil)))
def Lf92_r0 : List LOper := [oo 2 (.box 43 (.t 0)), oo 3 (.box 76 (.t 1)), oo 4 (.fresh 43 [.nil, (ii 0), (ii 0), (ii 0), (ii 0), (bb false), (ii 0), (ii 0), (ii 0), (bb false), (bb false), (bb false), (bb false), .nil, .nil, .nil])]
def Lf92_r1 : List LOper := [oo 5 (.load true 3 (.t 3)), oo 6 (.call 95 [(.t 5)]), oo 7 (.un .not (.t 6))]
def Lf92_r2 : List LOper := [oo 8 (.load true 16 (.t 2)), oo 9 (.load true 3 (.t 3)), oo 10 (.call 96 [(.t 8), (.t 9)]), ⟨none, (.store 16 (.t 4) (.t 10)), none⟩]
def Lf92_r3 : List LOper := [oo 11 (.fadr 0 (.t 2)), oo 12 (.fadr 10 (.t 11)), oo 13 (.load false 1 (.t 12))]
def Lf92_r4 : List LOper := [oo 14 (.fadr 0 (.t 2)), oo 15 (.load true 13 (.t 14)), oo 16 (.fadr 0 (.t 2)), oo 17 (.fadr 1 (.t 16)), oo 18 (.load false 1 (.t 17)), oo 19 (.call 90 [(.t 15), (.c (ii 3)), (.c (ii 0)), (.t 18)]), oo 20 (.fadr 0 (.t 2)), ⟨none, (.store 13 (.t 20) (.t 19)), none⟩]
def Lf92_r5 : List LOper := [oo 21 (.load true 16 (.t 2)), ⟨none, (.store 16 (.t 4) (.t 21)), none⟩]
def Lf92_r6 : List LOper := [oo 22 (.load true 16 (.t 2)), oo 23 (.load true 3 (.t 3)), oo 24 (.call 97 [(.t 22), (.t 23)]), ⟨none, (.store 16 (.t 4) (.t 24)), none⟩]
def Lf92 : LFun := ⟨25, [(.cell 4 true 16)], (.seq (.reg false Lf92_r0) (.seq (.seq (.reg false Lf92_r1) (.cond (.t 7) (.seq (.reg false Lf92_r2) .ret) .skip)) (.seq (.seq (.reg false Lf92_r3) (.cond (.t 13) (.seq (.reg false Lf92_r4) (.seq (.reg false Lf92_r5) .ret)) .skip)) (.seq (.reg false Lf92_r6) .ret))))⟩
theorem low_impl_did : lowFun Go.Proofs.Try.prog 92 = some Lf92 := by kernel_rfl
noncomputable def F_impl_did (x_b : DBare) (x_i : DIns) : Option DBare :=
 Option.bind (F_impl_InsKernel x_i) fun v1 =>
 cond (!v1)
  (Option.bind (F_impl_didOpen x_b x_i) fun v2 =>
  some v2)
  (cond x_b.C.User
   (Option.bind (F_impl_trapped x_b.C (3 : Int) (0 : Int) x_b.C.Pc) fun v3 =>
   some (DBare.mk v3 x_b.Mem x_b.In x_b.Out))
   (Option.bind (F_impl_didKernel x_b x_i) fun v4 =>
   some v4))
theorem impl_did_fn {x_b : DBare} {x_i : DIns} {R_ : DBare} (hh : F_impl_did x_b x_i = some R_) : Fn Try.prog 92 [.agg (B_43 x_b), .agg (C_76 x_i)] (.agg (bo (eI .i64) R_.C.Regs :: ru39 R_.C [bo (eI .i64) R_.Mem, bo (eI .i64) R_.In, bo (eI .i64) R_.Out])) := by
 unfold F_impl_did at hh
 refine Fn.start low_impl_did [0, 1] (E := sp 25 [(0, .agg (B_43 x_b)), (1, .agg (C_76 x_i))]) (by kernel_rfl) (v := .agg (bo (eI .i64) R_.C.Regs :: ru39 R_.C [bo (eI .i64) R_.Mem, bo (eI .i64) R_.In, bo (eI .i64) R_.Out])) (Hr := []) (k := 0) (by kernel_rfl) ?_
 refine Aw.sreg [2, 3, 4] [0, 1, 2] ?_
 let q1 : Root := ⟨43, (.nil :: zru39 [.nil, .nil, .nil])⟩
 refine yt (sp 25 [(2, pp 0), (3, pp 1), (4, pp 2)]) [(0, some ⟨43, (B_43 x_b)⟩), (1, some ⟨76, (C_76 x_i)⟩), (2, some q1)] 3 ?_
 refine Aw.seq ?_
 refine Aw.sreg [2, 3, 4, 7] [0, 1, 2] (yj 1  (sp 25 [(2, pp 0), (3, pp 1), (4, pp 2), (5, .agg (C_76 x_i))]) [(0, some ⟨43, (B_43 x_b)⟩), (1, some ⟨76, (C_76 x_i)⟩), (2, some q1)] 3 ?_)
 obtain ⟨v1, hv1, hh⟩ := bind_some hh
 refine ys (.call 95 [(.t 5)]) (some 6) (oc (impl_InsKernel_fn hv1) ?_)
 refine yt (sp 25 [(2, pp 0), (3, pp 1), (4, pp 2), (7, bb (!v1))]) [(0, some ⟨43, (B_43 x_b)⟩), (1, some ⟨76, (C_76 x_i)⟩), (2, some q1)] 3 ?_
 rcases cond_some hh with ⟨hb, hh⟩ | ⟨hb, hh⟩
 · refine cT hb ?_
   refine Aw.sreg [4] [2] (yu 2 [(8, .agg (B_43 x_b)), (9, .agg (C_76 x_i))] [(0, some ⟨43, (B_43 x_b)⟩), (1, some ⟨76, (C_76 x_i)⟩), (2, some q1)] 3 ?_)
   obtain ⟨v2, hv2, hh⟩ := bind_some hh
   refine ys (.call 96 [(.t 8), (.t 9)]) (some 10) (op_callp (r := .agg (B_43 v2)) (v := .agg (B_43 v2)) (Hr := []) (n' := 3) (impl_didOpen_fn hv2) (clz_v (vs := [.agg (B_43 x_b), .agg (C_76 x_i)]) (by kernel_rfl) (clz_c (clo_same (clean_agg (cl_B_43 _))) (cz1 clz_n))) (by simp only [AV.noRef, noRefs, Bool.and_self, noRefs_fl nr_eI, nr_B_43]) (by kernel_rfl) ?_)
   refine yt (sp 25 [(4, pp 2)]) [(2, some ⟨43, (B_43 v2)⟩)] 3 ?_
   refine Aw.ret ?_
   refine then_r ?_
   rw [some_some hh]
   exact gives (r' := .agg (B_43 v2)) (by kernel_rfl) (Ent.clov (.one _ _ (clo_same (clean_agg (cl_B_43 _)))))
 refine cF hb ?_
 refine Aw.xskip (fun _ _ _ hq => then_m hq) ?_
 refine Aw.seq ?_
 refine sy [2, 3, 4, 13] [0, 1, 2] (sp 25 [(2, pp 0), (3, pp 1), (4, pp 2), (13, bb x_b.C.User)]) [(0, some ⟨43, (B_43 x_b)⟩), (1, some ⟨76, (C_76 x_i)⟩), (2, some q1)] 3 ?_
 rcases cond_some hh with ⟨hb, hh⟩ | ⟨hb, hh⟩
 · refine cT hb ?_
   refine Aw.sreg [2, 4] [0, 2] (yu 5 [(14, pp 0), (15, .agg (B_39 x_b.C)), (16, pp 0), (17, .ptr 0 [] 1), (18, ii x_b.C.Pc)] [(0, some ⟨43, (B_43 x_b)⟩), (1, some ⟨76, (C_76 x_i)⟩), (2, some q1)] 3 ?_)
   obtain ⟨v3, hv3, hh⟩ := bind_some hh
   refine ys (.call 90 [(.t 15), (.c (ii 3)), (.c (ii 0)), (.t 18)]) (some 19) (op_callp (r := .agg (B_39 v3)) (v := .agg (B_39 v3)) (Hr := []) (n' := 3) (impl_trapped_fn hv3) (clz_v (vs := [.agg (B_39 x_b.C), ii 3, ii 0, ii x_b.C.Pc]) (by kernel_rfl) (clz_c (clo_same (clean_agg (cl_B_39 _))) (cz1 (cz1 (cz1 clz_n))))) (by simp only [AV.noRef, noRefs, Bool.and_self, noRefs_fl nr_eI, nr_B_39]) (by kernel_rfl) ?_)
   let q2 : Root := ⟨43, (bo (eI .i64) v3.Regs :: ru39 v3 [bo (eI .i64) x_b.Mem, bo (eI .i64) x_b.In, bo (eI .i64) x_b.Out])⟩
   refine yt (sp 25 [(2, pp 0), (4, pp 2)]) [(0, some q2), (2, some q1)] 3 ?_
   refine sy [4] [2] (sp 25 [(4, pp 2)]) [(2, some q2)] 3 ?_
   refine Aw.ret ?_
   refine then_r ?_
   rw [some_some hh]
   exact gives (r' := .agg (bo (eI .i64) v3.Regs :: ru39 v3 [bo (eI .i64) x_b.Mem, bo (eI .i64) x_b.In, bo (eI .i64) x_b.Out])) (by kernel_rfl) (Ent.clov (.one _ _ (clo_agg (clos_c (clo_same (clean_bor (cleans_fl cl_eI))) (cs1 (cs1 (cs1 (cs1 (cs1 (cs1 (cs1 (cs1 (cs1 (cs1 (cs1 (cs1 (clos_c (clo_same (clean_bor (cleans_fl cl_eI))) (clos_c (clo_same (clean_bor (cleans_fl cl_eI))) (clos_c (clo_same (clean_bor (cleans_fl cl_eI))) clos_n)))))))))))))))))))
 refine cF hb ?_
 refine Aw.xskip (fun _ _ _ hq => then_m hq) ?_
 refine Aw.sreg [4] [2] (yj 2  (sp 25 [(2, pp 0), (3, pp 1), (4, pp 2), (13, bb x_b.C.User), (22, .agg (B_43 x_b)), (23, .agg (C_76 x_i))]) [(0, some ⟨43, (B_43 x_b)⟩), (1, some ⟨76, (C_76 x_i)⟩), (2, some q1)] 3 ?_)
 obtain ⟨v4, hv4, hh⟩ := bind_some hh
 refine ys (.call 97 [(.t 22), (.t 23)]) (some 24) (op_callp (r := .agg (B_43 v4)) (v := .agg (B_43 v4)) (Hr := []) (n' := 3) (impl_didKernel_fn hv4) (clz_v (vs := [.agg (B_43 x_b), .agg (C_76 x_i)]) (by kernel_rfl) (clz_c (clo_same (clean_agg (cl_B_43 _))) (cz1 clz_n))) (by simp only [AV.noRef, noRefs, Bool.and_self, noRefs_fl nr_eI, nr_B_43]) (by kernel_rfl) ?_)
 refine yt (sp 25 [(4, pp 2)]) [(2, some ⟨43, (B_43 v4)⟩)] 3 ?_
 refine Aw.ret ?_
 rw [some_some hh]
 exact gives (r' := .agg (B_43 v4)) (by kernel_rfl) (Ent.clov (.one _ _ (clo_same (clean_agg (cl_B_43 _)))))
def Lf93_r0 : List LOper := [oo 2 (.fresh 76 [(ii 0), (ii 0), (ii 0)])]
def Lf93_r1 : List LOper := [om 3 0, oo 4 (.call 25 [(.t 3)]), oo 5 (.un .not (.t 4))]
def Lf93_r2 : List LOper := [oo 6 (.bld [(ii 0), (ii 0), (ii 0)] []), ⟨none, (.store 3 (.t 2) (.t 6)), none⟩]
def Lf93_r3 : List LOper := [om 7 0, oo 8 (.bin .quo (.t 7) (.c (ii 256))), om 9 0, oo 10 (.bin .quo (.t 9) (.c (ii 64))), oo 11 (.bin .rem (.t 10) (.c (ii 4))), om 12 0, oo 13 (.bin .rem (.t 12) (.c (ii 64))), oo 14 (.bld [(ii 0), (ii 0), (ii 0)] [(0, (1, (.t 8))), (1, (1, (.t 11))), (2, (1, (.t 13)))]), ⟨none, (.store 3 (.t 2) (.t 14)), none⟩]
def Lf93 : LFun := ⟨15, [(.cell 2 true 3)], (.seq (.reg false Lf93_r0) (.seq (.seq (.reg false Lf93_r1) (.cond (.t 5) (.seq (.reg false Lf93_r2) .ret) .skip)) (.seq (.reg false Lf93_r3) .ret)))⟩
theorem low_impl_InsFrom : lowFun Go.Proofs.Try.prog 93 = some Lf93 := by kernel_rfl
noncomputable def F_impl_InsFrom (x_w : Int) : Option DIns :=
 Option.bind (F_impl_WordOk x_w) fun v1 =>
 cond (!v1)
  (some (DIns.mk (0 : Int) (0 : Int) (0 : Int)))
  (some (DIns.mk (w64 (Int.tdiv x_w (256 : Int))) (Int.tmod (w64 (Int.tdiv x_w (64 : Int))) (4 : Int)) (Int.tmod x_w (64 : Int))))
theorem impl_InsFrom_fn {x_w : Int} {R_ : DIns} (hh : F_impl_InsFrom x_w = some R_) : Fn Try.prog 93 [.int .i64 x_w] (.agg [.int .i64 R_.Op, .int .i64 R_.A, .int .i64 R_.N]) := by
 unfold F_impl_InsFrom at hh
 refine Fn.start low_impl_InsFrom [0] (E := sp 15 [(0, ii x_w)]) (by kernel_rfl) (v := .agg [ii R_.Op, ii R_.A, ii R_.N]) (Hr := []) (k := 0) (by kernel_rfl) ?_
 refine Aw.sreg [0, 2] [0] ?_
 let q1 : Root := ⟨76, [ii 0, ii 0, ii 0]⟩
 refine yt (sp 15 [(0, ii x_w), (2, pp 0)]) [(0, some q1)] 1 ?_
 refine Aw.seq ?_
 refine Aw.sreg [0, 2, 5] [0] (yj 1  (sp 15 [(0, ii x_w), (2, pp 0), (3, ii x_w)]) [(0, some q1)] 1 ?_)
 obtain ⟨v1, hv1, hh⟩ := bind_some hh
 refine ys (.call 25 [(.t 3)]) (some 4) (oc (impl_WordOk_fn hv1) ?_)
 refine yt (sp 15 [(0, ii x_w), (2, pp 0), (5, bb (!v1))]) [(0, some q1)] 1 ?_
 rcases cond_some hh with ⟨hb, hh⟩ | ⟨hb, hh⟩
 · refine cT hb ?_
   refine sy [2] [0] (sp 15 [(2, pp 0)]) [(0, some q1)] 1 ?_
   refine Aw.ret ?_
   refine then_r ?_
   rw [some_some hh]
   exact gives (r' := .agg [ii 0, ii 0, ii 0]) (by kernel_rfl) (Ent.list [] rfl rfl (Nat.zero_le _) (rens_1 (ren_agg (rens_i (rens_i (rens_i rens_n))))) hs_nil)
 refine cF hb ?_
 refine Aw.xskip (fun _ _ _ hq => then_m hq) ?_
 refine Aw.sreg [2] [0] ?_
 refine ytc [(256 : Int) ≠ 0, (64 : Int) ≠ 0, (4 : Int) ≠ 0, (64 : Int) ≠ 0] (sp 15 [(2, pp 0)]) [(0, some ⟨76, [ii (w64 (Int.tdiv x_w (256 : Int))), ii (Int.tmod (w64 (Int.tdiv x_w (64 : Int))) (4 : Int)), ii (Int.tmod x_w (64 : Int))]⟩)] 1 (.cons (by decide) (.cons (by decide) (.cons (by decide) (.cons (by decide) .nil)))) ?_
 refine Aw.ret ?_
 rw [some_some hh]
 exact gives (r' := .agg [ii (w64 (Int.tdiv x_w (256 : Int))), ii (Int.tmod (w64 (Int.tdiv x_w (64 : Int))) (4 : Int)), ii (Int.tmod x_w (64 : Int))]) (by kernel_rfl) (Ent.list [] rfl rfl (Nat.zero_le _) (rens_1 (ren_agg (rens_i (rens_i (rens_i rens_n))))) hs_nil)
def Lf69_r0 : List LOper := [oo 1 (.box 43 (.t 0)), oo 2 (.fresh 43 [.nil, (ii 0), (ii 0), (ii 0), (ii 0), (bb false), (ii 0), (ii 0), (ii 0), (bb false), (bb false), (bb false), (bb false), .nil, .nil, .nil])]
def Lf69_r1 : List LOper := [oo 4 (.fadr 0 (.t 1)), oo 5 (.fadr 12 (.t 4)), oo 6 (.load false 1 (.t 5))]
def Lf69_r2 : List LOper := [oo 7 (.load true 16 (.t 1)), ⟨none, (.store 16 (.t 2) (.t 7)), none⟩]
def Lf69_r3 : List LOper := [oo 8 (.fadr 0 (.t 1)), oo 9 (.load true 13 (.t 8)), oo 10 (.call 89 [(.t 9)]), oo 11 (.fadr 0 (.t 1)), ⟨none, (.store 13 (.t 11) (.t 10)), none⟩]
def Lf69_r4 : List LOper := [oo 12 (.fadr 0 (.t 1)), oo 13 (.fadr 9 (.t 12)), oo 14 (.load false 1 (.t 13)), om 15 14, ⟨(some 16), (.fadr 0 (.t 1)), (some (15, true))⟩, ⟨(some 17), (.fadr 11 (.t 16)), (some (15, true))⟩, ⟨(some 18), (.load false 1 (.t 17)), (some (15, true))⟩, oo 19 (.pick (.t 15) (.t 18) (.c (bb false)))]
def Lf69_r5 : List LOper := [oo 20 (.fadr 0 (.t 1)), oo 21 (.fadr 9 (.t 20)), ⟨none, (.store 1 (.t 21) (.c (bb false))), none⟩]
def Lf69_r6 : List LOper := [oo 22 (.fadr 0 (.t 1)), oo 23 (.load true 13 (.t 22)), oo 24 (.fadr 0 (.t 1)), oo 25 (.fadr 1 (.t 24)), oo 26 (.load false 1 (.t 25)), oo 27 (.call 90 [(.t 23), (.c (ii 4)), (.c (ii 0)), (.t 26)]), oo 28 (.fadr 0 (.t 1)), ⟨none, (.store 13 (.t 28) (.t 27)), none⟩]
def Lf69_r7 : List LOper := [oo 29 (.load true 16 (.t 1)), ⟨none, (.store 16 (.t 2) (.t 29)), none⟩]
def Lf69_r8 : List LOper := [oo 30 (.fadr 13 (.t 1)), oo 31 (.load false 1 (.t 30)), oo 32 (.fadr 0 (.t 1)), oo 33 (.fadr 2 (.t 32)), oo 34 (.load false 1 (.t 33)), oo 35 (.fadr 0 (.t 1)), oo 36 (.fadr 1 (.t 35)), oo 37 (.load false 1 (.t 36)), oo 38 (.fadr 0 (.t 1)), oo 39 (.fadr 10 (.t 38)), oo 40 (.load false 1 (.t 39)), oo 41 (.call 27 [(.t 31), (.t 34), (.t 37), (.t 40), (.c (bb false))]), om 3 41]
def Lf69_r9 : List LOper := [om 42 3, oo 43 (.bin .eql (.t 42) (.c (ii (-1))))]
def Lf69_r10 : List LOper := [oo 44 (.load true 16 (.t 1)), oo 45 (.fadr 0 (.t 1)), oo 46 (.fadr 1 (.t 45)), oo 47 (.load false 1 (.t 46)), oo 48 (.call 91 [(.t 44), (.t 47)]), ⟨none, (.store 16 (.t 2) (.t 48)), none⟩]
def Lf69_r11 : List LOper := [oo 49 (.load true 16 (.t 1)), oo 50 (.fadr 13 (.t 1)), oo 51 (.load false 1 (.t 50)), om 52 3, oo 53 (.iadr 1 (.t 51) (.t 52)), oo 54 (.load false 1 (.t 53)), oo 55 (.call 93 [(.t 54)]), oo 56 (.call 92 [(.t 49), (.t 55)])]
def Lf69_r11t : List LOper := [⟨none, (.store 16 (.t 2) (.t 56)), none⟩]
def Lf69 : LFun := ⟨57, [(.cell 2 true 16)], (.seq (.reg false Lf69_r0) (.seq (.seq (.reg false Lf69_r1) (.cond (.t 6) (.seq (.reg false Lf69_r2) .ret) .skip)) (.seq (.reg false Lf69_r3) (.seq (.seq (.reg false Lf69_r4) (.cond (.t 19) (.seq (.reg false Lf69_r5) (.seq (.reg false Lf69_r6) (.seq (.reg false Lf69_r7) .ret))) .skip)) (.seq (.reg false Lf69_r8) (.seq (.seq (.reg false Lf69_r9) (.cond (.t 43) (.seq (.reg false Lf69_r10) .ret) .skip)) (.seq (.regd Lf69_r11 Lf69_r11t) .ret)))))))⟩
theorem low_impl_stepped : lowFun Go.Proofs.Try.prog 69 = some Lf69 := by kernel_rfl
noncomputable def F_impl_stepped_j2 (x_b : DBare) (v1 : DCore) (s2 : Unit) : Option DBare :=
 Option.bind (F_impl_Walk x_b.Mem v1.Root v1.Pc v1.User false) fun v3 =>
 cond (decide (v3 = (-1 : Int)))
  (Option.bind (F_impl_faulted (DBare.mk v1 x_b.Mem x_b.In x_b.Out) v1.Pc) fun v4 =>
  some v4)
  (grd ((0 : Int) ≤ v3 ∧ v3 < ((List.length x_b.Mem : Nat) : Int)) (Option.bind (F_impl_InsFrom (List.getD x_b.Mem (Int.toNat v3) default)) fun v5 =>
   Option.bind (F_impl_did (DBare.mk v1 x_b.Mem x_b.In x_b.Out) v5) fun v6 =>
   some v6))
noncomputable def F_impl_stepped (x_b : DBare) : Option DBare :=
 cond x_b.C.Stopped
  (some x_b)
  (Option.bind (F_impl_ticked x_b.C) fun v1 =>
  Option.bind (cond v1.Waits
   (cond v1.On
    (Option.bind (F_impl_trapped (DCore.mk v1.Regs v1.Pc v1.Root v1.Vector v1.Saved v1.SavedUser v1.Cause v1.Bad v1.Timer false v1.User v1.On v1.Stopped) (4 : Int) (0 : Int) v1.Pc) fun v7 =>
    some (.out (DBare.mk v7 x_b.Mem x_b.In x_b.Out)))
    (some (.go ())))
   (some (.go ()))) fun j2 =>
   JO.run j2 (F_impl_stepped_j2 x_b v1))
theorem impl_stepped_fn {x_b : DBare} {R_ : DBare} (hh : F_impl_stepped x_b = some R_) : Fn Try.prog 69 [.agg (B_43 x_b)] (.agg (bo (eI .i64) R_.C.Regs :: ru39 R_.C [bo (eI .i64) R_.Mem, bo (eI .i64) R_.In, bo (eI .i64) R_.Out])) := by
 unfold F_impl_stepped at hh
 refine Fn.start low_impl_stepped [0] (E := sp 57 [(0, .agg (B_43 x_b))]) (by kernel_rfl) (v := .agg (bo (eI .i64) R_.C.Regs :: ru39 R_.C [bo (eI .i64) R_.Mem, bo (eI .i64) R_.In, bo (eI .i64) R_.Out])) (Hr := []) (k := 0) (by kernel_rfl) ?_
 refine Aw.sreg [1, 2] [0, 1] ?_
 let q1 : Root := ⟨43, (.nil :: zru39 [.nil, .nil, .nil])⟩
 refine yt (sp 57 [(1, pp 0), (2, pp 1)]) [(0, some ⟨43, (B_43 x_b)⟩), (1, some q1)] 2 ?_
 refine Aw.seq ?_
 refine sy [1, 2, 6] [0, 1] (sp 57 [(1, pp 0), (2, pp 1), (6, bb x_b.C.Stopped)]) [(0, some ⟨43, (B_43 x_b)⟩), (1, some q1)] 2 ?_
 rcases cond_some hh with ⟨hb, hh⟩ | ⟨hb, hh⟩
 · refine cT hb ?_
   refine sy [2] [1] (sp 57 [(2, pp 1)]) [(1, some ⟨43, (B_43 x_b)⟩)] 2 ?_
   refine Aw.ret ?_
   refine then_r ?_
   rw [some_some hh]
   exact gives (r' := .agg (B_43 x_b)) (by kernel_rfl) (Ent.clov (.one _ _ (clo_same (clean_agg (cl_B_43 _)))))
 refine cF hb ?_
 refine Aw.xskip (fun _ _ _ hq => then_m hq) ?_
 refine Aw.sreg [1, 2] [0, 1] (yj 2  (sp 57 [(1, pp 0), (2, pp 1), (6, bb x_b.C.Stopped), (8, pp 0), (9, .agg (B_39 x_b.C))]) [(0, some ⟨43, (B_43 x_b)⟩), (1, some q1)] 2 ?_)
 obtain ⟨v1, hv1, hh⟩ := bind_some hh
 refine ys (.call 89 [(.t 9)]) (some 10) (op_callp (r := .agg (B_39 v1)) (v := .agg (B_39 v1)) (Hr := []) (n' := 2) (impl_ticked_fn hv1) (clz_v (vs := [.agg (B_39 x_b.C)]) (by kernel_rfl) (clz_c (clo_same (clean_agg (cl_B_39 _))) clz_n)) (by simp only [AV.noRef, noRefs, Bool.and_self, noRefs_fl nr_eI, nr_B_39]) (by kernel_rfl) ?_)
 let q2 : Root := ⟨43, (bo (eI .i64) v1.Regs :: ru39 v1 [bo (eI .i64) x_b.Mem, bo (eI .i64) x_b.In, bo (eI .i64) x_b.Out])⟩
 refine yt (sp 57 [(1, pp 0), (2, pp 1)]) [(0, some q2), (1, some q1)] 2 ?_
 obtain ⟨j2, hh, hk2⟩ := bind_some hh
 refine Aw.join (S := Unit) (fun s2 => sp 57 [(1, pp 0), (2, pp 1)]) (fun s2 => [(0, some ⟨43, (bo (eI .i64) v1.Regs :: ru39 v1 [bo (eI .i64) x_b.Mem, bo (eI .i64) x_b.In, bo (eI .i64) x_b.Out])⟩), (1, some ⟨43, (.nil :: zru39 [.nil, .nil, .nil])⟩)]) 2 (fun s2 => F_impl_stepped_j2 x_b v1 s2 = some R_) ?_ ?_
 · intro s2 hh
   unfold F_impl_stepped_j2 at hh
   refine Aw.sreg [1, 2, 3] [0, 1] (yj 11  (sp 57 [(1, pp 0), (2, pp 1), (30, .ptr 0 [] 13), (31, bo (eI .i64) x_b.Mem), (32, pp 0), (33, .ptr 0 [] 2), (34, ii v1.Root), (35, pp 0), (36, .ptr 0 [] 1), (37, ii v1.Pc), (38, pp 0), (39, .ptr 0 [] 10), (40, bb v1.User)]) [(0, some q2), (1, some q1)] 2 ?_)
   obtain ⟨v3, hv3, hh⟩ := bind_some hh
   refine ys (.call 27 [(.t 31), (.t 34), (.t 37), (.t 40), (.c (bb false))]) (some 41) (oc (impl_Walk_fn hv3) ?_)
   refine yt (sp 57 [(1, pp 0), (2, pp 1), (3, ii v3)]) [(0, some q2), (1, some q1)] 2 ?_
   refine Aw.seq ?_
   refine sy [1, 2, 3, 43] [0, 1] (sp 57 [(1, pp 0), (2, pp 1), (3, ii v3), (43, bb (decide (v3 = (-1 : Int))))]) [(0, some q2), (1, some q1)] 2 ?_
   rcases cond_some hh with ⟨hb, hh⟩ | ⟨hb, hh⟩
   · refine cT hb ?_
     refine Aw.sreg [2] [1] (yu 4 [(44, .agg (bo (eI .i64) v1.Regs :: ru39 v1 [bo (eI .i64) x_b.Mem, bo (eI .i64) x_b.In, bo (eI .i64) x_b.Out])), (45, pp 0), (46, .ptr 0 [] 1), (47, ii v1.Pc)] [(0, some q2), (1, some q1)] 2 ?_)
     obtain ⟨v4, hv4, hh⟩ := bind_some hh
     refine ys (.call 91 [(.t 44), (.t 47)]) (some 48) (op_callp (r := .agg (B_43 v4)) (v := .agg (B_43 v4)) (Hr := []) (n' := 2) (impl_faulted_fn hv4) (clz_v (vs := [.agg (bo (eI .i64) v1.Regs :: ru39 v1 [bo (eI .i64) x_b.Mem, bo (eI .i64) x_b.In, bo (eI .i64) x_b.Out]), ii v1.Pc]) (by kernel_rfl) (clz_c (clo_agg (clos_c (clo_same (clean_bor (cleans_fl cl_eI))) (cs1 (cs1 (cs1 (cs1 (cs1 (cs1 (cs1 (cs1 (cs1 (cs1 (cs1 (cs1 (clos_c (clo_same (clean_bor (cleans_fl cl_eI))) (clos_c (clo_same (clean_bor (cleans_fl cl_eI))) (clos_c (clo_same (clean_bor (cleans_fl cl_eI))) clos_n))))))))))))))))) (cz1 clz_n))) (by simp only [ru39, AV.noRef, noRefs, Bool.and_self, noRefs_fl nr_eI, nr_B_43]) (by kernel_rfl) ?_)
     refine yt (sp 57 [(2, pp 1)]) [(1, some ⟨43, (B_43 v4)⟩)] 2 ?_
     refine Aw.ret ?_
     refine then_r ?_
     rw [some_some hh]
     exact gives (r' := .agg (B_43 v4)) (by kernel_rfl) (Ent.clov (.one _ _ (clo_same (clean_agg (cl_B_43 _)))))
   refine cF hb ?_
   refine Aw.xskip (fun _ _ _ hq => then_m hq) ?_
   refine Aw.sregd [2] [1] [] (by kernel_rfl) ?_
   refine dc (cs := []) (E' := (sp 57 [(1, pp 0), (2, pp 1), (3, ii v3), (43, bb (decide (v3 = (-1 : Int)))), (49, .agg (bo (eI .i64) v1.Regs :: ru39 v1 [bo (eI .i64) x_b.Mem, bo (eI .i64) x_b.In, bo (eI .i64) x_b.Out])), (50, .ptr 0 [] 13), (51, bo (eI .i64) x_b.Mem), (52, ii v3)])) (H' := [(0, some q2), (1, some q1)]) (n' := 2) (fs' := none) (pre := (List.take 4 Lf69_r11)) (L' := (List.drop 4 Lf69_r11)) (by kernel_rfl) (fun K => by kernel_rfl) .nil ?_
   obtain ⟨hg2, hh⟩ := grd_some hh
   refine ds (.iadr 1 (.t 51) (.t 52)) (some 53) (ydo_q rfl (by kernel_rfl) (op_iadr (kd := .i64) (c := (eI .i64)) (xs := x_b.Mem) len_eI (by decide) (by kernel_rfl) (by kernel_rfl) hg2 ?_))
   refine ds (.load false 1 (.t 53)) (some 54) (ydo_q rfl (by kernel_rfl) (op_loadb (c := (eI .i64)) (xs := x_b.Mem) (o := Int.toNat v3 * 1) (i := (Int.toNat v3)) (off := 0) (v := ii (List.getD x_b.Mem (Int.toNat v3) default)) len_eI (by kernel_rfl) (by omega) (by omega) (by decide) (by kernel_rfl) ?_))
   obtain ⟨v5, hv5, hh⟩ := bind_some hh
   refine ds (.call 93 [(.t 54)]) (some 55) (ydo_n rfl (op_call (r := .agg (C_76 v5)) (v := .agg (C_76 v5)) (Hr := []) (n' := 2) (impl_InsFrom_fn hv5) (clz_v (vs := [ii (List.getD x_b.Mem (Int.toNat v3) default)]) (by kernel_rfl) (cz1 clz_n)) rfl rfl (by kernel_rfl) ⟨⟨agr_name (n := 2) (n0 := 2) (r := .agg (C_76 v5)) (v := .agg (C_76 v5)) (Hr := []) (n' := 2) (by kernel_rfl) (by decide), Hld.un ?_⟩⟩))
   obtain ⟨v6, hv6, hh⟩ := bind_some hh
   refine ds (.call 92 [(.t 49), (.t 55)]) (some 56) (ydo_n rfl (op_callp (r := .agg (B_43 v6)) (v := .agg (B_43 v6)) (Hr := []) (n' := 2) (impl_did_fn hv6) (clz_v (vs := [.agg (bo (eI .i64) v1.Regs :: ru39 v1 [bo (eI .i64) x_b.Mem, bo (eI .i64) x_b.In, bo (eI .i64) x_b.Out]), .agg (C_76 v5)]) (by kernel_rfl) (clz_c (clo_agg (clos_c (clo_same (clean_bor (cleans_fl cl_eI))) (cs1 (cs1 (cs1 (cs1 (cs1 (cs1 (cs1 (cs1 (cs1 (cs1 (cs1 (cs1 (clos_c (clo_same (clean_bor (cleans_fl cl_eI))) (clos_c (clo_same (clean_bor (cleans_fl cl_eI))) (clos_c (clo_same (clean_bor (cleans_fl cl_eI))) clos_n))))))))))))))))) (cz1 clz_n))) (by simp only [ru39, AV.noRef, noRefs, Bool.and_self, noRefs_fl nr_eI, nr_B_43]) (by kernel_rfl) ⟨⟨agr_name (n := 2) (n0 := 2) (r := .agg (B_43 v6)) (v := .agg (B_43 v6)) (Hr := []) (n' := 2) (by kernel_rfl) (by decide), Hld.un ?_⟩⟩))
   refine dct (cs := []) (E' := (sp 57 [(1, pp 0), (2, pp 1), (3, ii v3), (43, bb (decide (v3 = (-1 : Int)))), (49, .agg (bo (eI .i64) v1.Regs :: ru39 v1 [bo (eI .i64) x_b.Mem, bo (eI .i64) x_b.In, bo (eI .i64) x_b.Out])), (50, .ptr 0 [] 13), (51, bo (eI .i64) x_b.Mem), (52, ii v3), (53, .bptr (fl (eI .i64) x_b.Mem) (Int.toNat v3 * 1)), (54, ii (List.getD x_b.Mem (Int.toNat v3) default)), (55, .agg (C_76 v5)), (56, .agg (B_43 v6))])) (H' := [(0, some q2), (1, some q1)]) (n' := 2) (fun K => by kernel_rfl) .nil ?_
   refine yt (sp 57 [(2, pp 1)]) [(1, some ⟨43, (B_43 v6)⟩)] 2 ?_
   refine Aw.ret ?_
   rw [some_some hh]
   exact gives (r' := .agg (B_43 v6)) (by kernel_rfl) (Ent.clov (.one _ _ (clo_same (clean_agg (cl_B_43 _)))))
 intro Q2 hN2 hR2 hE2
 refine Aw.sreg [1, 2, 19] [0, 1] (yj 4  (sp 57 [(1, pp 0), (2, pp 1), (12, pp 0), (13, .ptr 0 [] 9), (14, bb v1.Waits), (15, bb v1.Waits)]) [(0, some q2), (1, some q1)] 2 ?_)
 rcases cond_some hh with ⟨hb, hh⟩ | ⟨hb, hh⟩
 · refine yb 14 hb ?_
   refine yb 15 hb ?_
   refine yt (sp 57 [(1, pp 0), (2, pp 1), (19, bb v1.On)]) [(0, some q2), (1, some q1)] 2 ?_
   rcases cond_some hh with ⟨hb, hh⟩ | ⟨hb, hh⟩
   · refine cT hb ?_
     refine Aw.sreg [1, 2] [0, 1] ?_
     let q3 : Root := ⟨43, [bo (eI .i64) v1.Regs, ii v1.Pc, ii v1.Root, ii v1.Vector, ii v1.Saved, bb v1.SavedUser, ii v1.Cause, ii v1.Bad, ii v1.Timer, bb false, bb v1.User, bb v1.On, bb v1.Stopped, bo (eI .i64) x_b.Mem, bo (eI .i64) x_b.In, bo (eI .i64) x_b.Out]⟩
     refine yt (sp 57 [(1, pp 0), (2, pp 1)]) [(0, some q3), (1, some q1)] 2 ?_
     refine Aw.sreg [1, 2] [0, 1] (yu 5 [(22, pp 0), (23, .agg [bo (eI .i64) v1.Regs, ii v1.Pc, ii v1.Root, ii v1.Vector, ii v1.Saved, bb v1.SavedUser, ii v1.Cause, ii v1.Bad, ii v1.Timer, bb false, bb v1.User, bb v1.On, bb v1.Stopped]), (24, pp 0), (25, .ptr 0 [] 1), (26, ii v1.Pc)] [(0, some q3), (1, some q1)] 2 ?_)
     obtain ⟨v7, hv7, hh⟩ := bind_some hh
     refine ys (.call 90 [(.t 23), (.c (ii 4)), (.c (ii 0)), (.t 26)]) (some 27) (op_callp (r := .agg (B_39 v7)) (v := .agg (B_39 v7)) (Hr := []) (n' := 2) (impl_trapped_fn hv7) (clz_v (vs := [.agg [bo (eI .i64) v1.Regs, ii v1.Pc, ii v1.Root, ii v1.Vector, ii v1.Saved, bb v1.SavedUser, ii v1.Cause, ii v1.Bad, ii v1.Timer, bb false, bb v1.User, bb v1.On, bb v1.Stopped], ii 4, ii 0, ii v1.Pc]) (by kernel_rfl) (clz_c (clo_agg (clos_c (clo_same (clean_bor (cleans_fl cl_eI))) (cs1 (cs1 (cs1 (cs1 (cs1 (cs1 (cs1 (cs1 (cs1 (cs1 (cs1 (cs1 clos_n)))))))))))))) (cz1 (cz1 (cz1 clz_n))))) (by simp only [AV.noRef, noRefs, Bool.and_self, noRefs_fl nr_eI, nr_B_39]) (by kernel_rfl) ?_)
     let q4 : Root := ⟨43, (bo (eI .i64) v7.Regs :: ru39 v7 [bo (eI .i64) x_b.Mem, bo (eI .i64) x_b.In, bo (eI .i64) x_b.Out])⟩
     refine yt (sp 57 [(1, pp 0), (2, pp 1)]) [(0, some q4), (1, some q1)] 2 ?_
     refine sy [2] [1] (sp 57 [(2, pp 1)]) [(1, some q4)] 2 ?_
     refine Aw.ret ?_
     obtain rfl := some_some hh
     refine hR2 _ _ _ ?_
     refine ?_
     rw [some_some hk2]
     exact gives (r' := .agg (bo (eI .i64) v7.Regs :: ru39 v7 [bo (eI .i64) x_b.Mem, bo (eI .i64) x_b.In, bo (eI .i64) x_b.Out])) (by kernel_rfl) (Ent.clov (.one _ _ (clo_agg (clos_c (clo_same (clean_bor (cleans_fl cl_eI))) (cs1 (cs1 (cs1 (cs1 (cs1 (cs1 (cs1 (cs1 (cs1 (cs1 (cs1 (cs1 (clos_c (clo_same (clean_bor (cleans_fl cl_eI))) (clos_c (clo_same (clean_bor (cleans_fl cl_eI))) (clos_c (clo_same (clean_bor (cleans_fl cl_eI))) clos_n)))))))))))))))))))
   refine cF hb ?_
   refine Aw.skip ?_
   obtain rfl := some_some hh
   exact hN2 () _ _ _ hk2 (Ent.list2 [some 0, some 1] rfl rfl (by decide) (rens_sp (by kernel_rfl) (rl_c (u := pp 0) (by kernel_rfl) (ren_p (by decide) rfl) (rl_c (u := pp 1) (by kernel_rfl) (ren_p (by decide) rfl) rl_n))) (hq q2 (rens_c (ren_bor (rens_same (noRefs_fl nr_eI))) (rens_i (rens_i (rens_i (rens_i (rens_b (rens_i (rens_i (rens_i (rens_b (rens_b (rens_b (rens_b (rens_c (ren_bor (rens_same (noRefs_fl nr_eI))) (rens_c (ren_bor (rens_same (noRefs_fl nr_eI))) (rens_c (ren_bor (rens_same (noRefs_fl nr_eI))) rens_n)))))))))))))))) (hq q1 (rens_c ren_nil (rens_i (rens_i (rens_i (rens_i (rens_b (rens_i (rens_i (rens_i (rens_b (rens_b (rens_b (rens_b (rens_c ren_nil (rens_c ren_nil (rens_c ren_nil rens_n)))))))))))))))) hs_nil)))
 refine yb 14 hb ?_
 refine yb 15 hb ?_
 refine yt (sp 57 [(1, pp 0), (2, pp 1), (19, bb false)]) [(0, some q2), (1, some q1)] 2 ?_
 refine cF rfl ?_
 refine Aw.skip ?_
 obtain rfl := some_some hh
 exact hN2 () _ _ _ hk2 (Ent.list2 [some 0, some 1] rfl rfl (by decide) (rens_sp (by kernel_rfl) (rl_c (u := pp 0) (by kernel_rfl) (ren_p (by decide) rfl) (rl_c (u := pp 1) (by kernel_rfl) (ren_p (by decide) rfl) rl_n))) (hq q2 (rens_c (ren_bor (rens_same (noRefs_fl nr_eI))) (rens_i (rens_i (rens_i (rens_i (rens_b (rens_i (rens_i (rens_i (rens_b (rens_b (rens_b (rens_b (rens_c (ren_bor (rens_same (noRefs_fl nr_eI))) (rens_c (ren_bor (rens_same (noRefs_fl nr_eI))) (rens_c (ren_bor (rens_same (noRefs_fl nr_eI))) rens_n)))))))))))))))) (hq q1 (rens_c ren_nil (rens_i (rens_i (rens_i (rens_i (rens_b (rens_i (rens_i (rens_i (rens_b (rens_b (rens_b (rens_b (rens_c ren_nil (rens_c ren_nil (rens_c ren_nil rens_n)))))))))))))))) hs_nil)))
def Lf36_r0 : List LOper := [oo 1 (.box 43 (.t 0)), oo 2 (.fresh 43 [.nil, (ii 0), (ii 0), (ii 0), (ii 0), (bb false), (ii 0), (ii 0), (ii 0), (bb false), (bb false), (bb false), (bb false), .nil, .nil, .nil])]
def Lf36_r1 : List LOper := [oo 3 (.load true 16 (.t 1)), oo 4 (.call 33 [(.t 3)]), oo 5 (.un .not (.t 4))]
def Lf36_r2 : List LOper := [oo 6 (.bld [.nil, (ii 0), (ii 0), (ii 0), (ii 0), (bb false), (ii 0), (ii 0), (ii 0), (bb false), (bb false), (bb false), (bb false), .nil, .nil, .nil] []), ⟨none, (.store 16 (.t 2) (.t 6)), none⟩]
def Lf36_r3 : List LOper := [oo 7 (.load true 16 (.t 1)), oo 8 (.call 69 [(.t 7)]), oo 9 (.call 68 [(.t 8)]), ⟨none, (.store 16 (.t 2) (.t 9)), none⟩]
def Lf36 : LFun := ⟨10, [(.cell 2 true 16)], (.seq (.reg false Lf36_r0) (.seq (.seq (.reg false Lf36_r1) (.cond (.t 5) (.seq (.reg false Lf36_r2) .ret) .skip)) (.seq (.reg false Lf36_r3) .ret)))⟩
theorem low_impl_BareStep : lowFun Go.Proofs.Try.prog 36 = some Lf36 := by kernel_rfl
noncomputable def F_impl_BareStep (x_b : DBare) : Option DBare :=
 Option.bind (F_impl_BareOk x_b) fun v1 =>
 cond (!v1)
  (some (DBare.mk (DCore.mk ([] : List Int) (0 : Int) (0 : Int) (0 : Int) (0 : Int) false (0 : Int) (0 : Int) (0 : Int) false false false false) ([] : List Int) ([] : List Int) ([] : List Int)))
  (Option.bind (F_impl_stepped x_b) fun v2 =>
  Option.bind (F_impl_copiedBare v2) fun v3 =>
  some v3)
theorem impl_BareStep_fn {x_b : DBare} {R_ : DBare} (hh : F_impl_BareStep x_b = some R_) : Fn Try.prog 36 [.agg (B_43 x_b)] (.agg (.own 3 1 (List.length R_.C.Regs) (fl (eI .i64) R_.C.Regs) :: ru39 R_.C [.own 3 1 (List.length R_.Mem) (fl (eI .i64) R_.Mem), .own 3 1 (List.length R_.In) (fl (eI .i64) R_.In), .own 3 1 (List.length R_.Out) (fl (eI .i64) R_.Out)])) := by
 unfold F_impl_BareStep at hh
 refine Fn.start low_impl_BareStep [0] (E := sp 10 [(0, .agg (B_43 x_b))]) (by kernel_rfl) (v := .agg (sw 0 R_.C.Regs :: ru39 R_.C [sw 1 R_.Mem, sw 2 R_.In, sw 3 R_.Out])) (Hr := [(3, some ⟨3, (fl (eI .i64) R_.Out)⟩), (2, some ⟨3, (fl (eI .i64) R_.In)⟩), (1, some ⟨3, (fl (eI .i64) R_.Mem)⟩), (0, some ⟨3, (fl (eI .i64) R_.C.Regs)⟩)]) (k := 4) (by kernel_rfl) ?_
 refine Aw.sreg [1, 2] [0, 1] ?_
 let q1 : Root := ⟨43, (.nil :: zru39 [.nil, .nil, .nil])⟩
 refine yt (sp 10 [(1, pp 0), (2, pp 1)]) [(0, some ⟨43, (B_43 x_b)⟩), (1, some q1)] 2 ?_
 refine Aw.seq ?_
 refine Aw.sreg [1, 2, 5] [0, 1] (yj 1  (sp 10 [(1, pp 0), (2, pp 1), (3, .agg (B_43 x_b))]) [(0, some ⟨43, (B_43 x_b)⟩), (1, some q1)] 2 ?_)
 obtain ⟨v1, hv1, hh⟩ := bind_some hh
 refine ys (.call 33 [(.t 3)]) (some 4) (op_call (r := bb v1) (v := bb v1) (Hr := []) (n' := 2) (impl_BareOk_fn hv1) (clz_v (vs := [.agg (B_43 x_b)]) (by kernel_rfl) (clz_c (clo_same (clean_agg (cl_B_43 _))) clz_n)) rfl rfl (by kernel_rfl) ?_)
 refine yt (sp 10 [(1, pp 0), (2, pp 1), (5, bb (!v1))]) [(0, some ⟨43, (B_43 x_b)⟩), (1, some q1)] 2 ?_
 rcases cond_some hh with ⟨hb, hh⟩ | ⟨hb, hh⟩
 · refine cT hb ?_
   refine sy [2] [1] (sp 10 [(2, pp 1)]) [(1, some q1)] 2 ?_
   refine Aw.ret ?_
   refine then_r ?_
   rw [some_some hh]
   exact gives (r' := .agg (.nil :: zru39 [.nil, .nil, .nil])) (by kernel_rfl) (Ent.list [none, none, none, none] rfl rfl (Nat.zero_le _) (rens_1 (ren_agg (rens_c (ren_s0 (by decide) rfl rfl) (rens_i (rens_i (rens_i (rens_i (rens_b (rens_i (rens_i (rens_i (rens_b (rens_b (rens_b (rens_b (rens_c (ren_s0 (by decide) rfl rfl) (rens_c (ren_s0 (by decide) rfl rfl) (rens_c (ren_s0 (by decide) rfl rfl) rens_n)))))))))))))))))) (hs_no (by decide) rfl rfl (hs_no (by decide) rfl rfl (hs_no (by decide) rfl rfl (hs_no (by decide) rfl rfl hs_nil)))))
 refine cF hb ?_
 refine Aw.xskip (fun _ _ _ hq => then_m hq) ?_
 refine Aw.sreg [2] [1, 2, 3, 4, 5] (yj 1  (sp 10 [(1, pp 0), (2, pp 1), (5, bb (!v1)), (7, .agg (B_43 x_b))]) [(0, some ⟨43, (B_43 x_b)⟩), (1, some q1)] 2 ?_)
 obtain ⟨v2, hv2, hh⟩ := bind_some hh
 refine ys (.call 69 [(.t 7)]) (some 8) (op_callp (r := .agg (B_43 v2)) (v := .agg (B_43 v2)) (Hr := []) (n' := 2) (impl_stepped_fn hv2) (clz_v (vs := [.agg (B_43 x_b)]) (by kernel_rfl) (clz_c (clo_same (clean_agg (cl_B_43 _))) clz_n)) (by simp only [AV.noRef, noRefs, Bool.and_self, noRefs_fl nr_eI, nr_B_43]) (by kernel_rfl) ?_)
 obtain ⟨v3, hv3, hh⟩ := bind_some hh
 let q2 : Root := ⟨3, (fl (eI .i64) v3.Out)⟩
 let q3 : Root := ⟨3, (fl (eI .i64) v3.In)⟩
 let q4 : Root := ⟨3, (fl (eI .i64) v3.Mem)⟩
 let q5 : Root := ⟨3, (fl (eI .i64) v3.C.Regs)⟩
 refine ys (.call 68 [(.t 8)]) (some 9) (op_call (r := .agg (.own 3 1 (List.length v3.C.Regs) (fl (eI .i64) v3.C.Regs) :: ru39 v3.C [.own 3 1 (List.length v3.Mem) (fl (eI .i64) v3.Mem), .own 3 1 (List.length v3.In) (fl (eI .i64) v3.In), .own 3 1 (List.length v3.Out) (fl (eI .i64) v3.Out)])) (v := .agg (sw 2 v3.C.Regs :: ru39 v3.C [sw 3 v3.Mem, sw 4 v3.In, sw 5 v3.Out])) (Hr := [(5, some q2), (4, some q3), (3, some q4), (2, some q5)]) (n' := 6) (impl_copiedBare_fn hv3) (clz_v (vs := [.agg (B_43 v2)]) (by kernel_rfl) (clz_c (clo_same (clean_agg (cl_B_43 _))) clz_n)) (by simp only [ru39, AV.noRef, noRefs, Bool.and_self, noRefs_fl nr_eI]) (by simp only [ru39, AV.noBor, noBors, Bool.and_self, noBors_fl nb_eI]) (by kernel_rfl) ?_)
 refine yt (sp 10 [(2, pp 1)]) [(1, some ⟨43, (sw 2 v3.C.Regs :: ru39 v3.C [sw 3 v3.Mem, sw 4 v3.In, sw 5 v3.Out])⟩), (2, some q5), (3, some q4), (4, some q3), (5, some q2)] 6 ?_
 refine Aw.ret ?_
 rw [some_some hh]
 exact gives (r' := .agg (sw 2 v3.C.Regs :: ru39 v3.C [sw 3 v3.Mem, sw 4 v3.In, sw 5 v3.Out])) (by kernel_rfl) (Ent.list [some 2, some 3, some 4, some 5] rfl rfl (Nat.zero_le _) (rens_1 (ren_agg (rens_c ren_sx (rens_i (rens_i (rens_i (rens_i (rens_b (rens_i (rens_i (rens_i (rens_b (rens_b (rens_b (rens_b (rens_c ren_sx (rens_c ren_sx (rens_c ren_sx rens_n)))))))))))))))))) (hq q2 (rens_same (noRefs_fl nr_eI)) (hq q3 (rens_same (noRefs_fl nr_eI)) (hq q4 (rens_same (noRefs_fl nr_eI)) (hq q5 (rens_same (noRefs_fl nr_eI)) hs_nil)))))
def Lf94_r0 : List LOper := [oo 1 (.box 39 (.t 0)), oo 2 (.fresh 39 [.nil, (ii 0), (ii 0), (ii 0), (ii 0), (bb false), (ii 0), (ii 0), (ii 0), (bb false), (bb false), (bb false), (bb false)])]
def Lf94_r1 : List LOper := [oo 3 (.bsl 3 1 0 [(ii 0)] []), oo 4 (.fadr 0 (.t 1)), oo 5 (.load false 1 (.t 4)), oo 6 (.app 3 1 8 [(ii 0)] (.t 3) (.t 5)), oo 7 (.fadr 0 (.t 1)), ⟨none, (.store 1 (.t 7) (.t 6)), none⟩]
def Lf94_r2 : List LOper := [oo 8 (.load true 13 (.t 1)), ⟨none, (.store 13 (.t 2) (.t 8)), none⟩]
def Lf94 : LFun := ⟨9, [(.cell 2 true 13)], (.seq (.reg false Lf94_r0) (.seq (.reg false Lf94_r1) (.seq (.reg false Lf94_r2) .ret)))⟩
theorem low_spec_l3Core : lowFun Go.Proofs.Try.prog 94 = some Lf94 := by kernel_rfl
noncomputable def F_spec_l3Core (x_c : DCore) : Option DCore :=
 grd ((List.length ([] : List Int) + List.length x_c.Regs) * 8 ≤ 2 ^ 47 ∧ List.length ([] : List Int) + List.length x_c.Regs ≤ 2 ^ 47) (some (DCore.mk (([] : List Int) ++ x_c.Regs) x_c.Pc x_c.Root x_c.Vector x_c.Saved x_c.SavedUser x_c.Cause x_c.Bad x_c.Timer x_c.Waits x_c.User x_c.On x_c.Stopped))
theorem spec_l3Core_fn {x_c : DCore} {R_ : DCore} (hh : F_spec_l3Core x_c = some R_) : Fn Try.prog 94 [.agg (B_39 x_c)] (.agg (.own 3 1 (List.length R_.Regs) (fl (eI .i64) R_.Regs) :: ru39 R_ [])) := by
 unfold F_spec_l3Core at hh
 refine Fn.start low_spec_l3Core [0] (E := sp 9 [(0, .agg (B_39 x_c))]) (by kernel_rfl) (v := .agg (sw 0 R_.Regs :: ru39 R_ [])) (Hr := [(0, some ⟨3, (fl (eI .i64) R_.Regs)⟩)]) (k := 1) (by kernel_rfl) ?_
 refine sy [1, 2] [0, 1] (sp 9 [(1, pp 0), (2, pp 1)]) [(0, some ⟨39, (B_39 x_c)⟩), (1, some ⟨39, (.nil :: zru39 [])⟩)] 2 ?_
 refine Aw.sreg [1, 2] [0, 1, 3] (yu 3 [(3, .sref 2 [] 0 0 1), (4, pp 0), (5, bo (eI .i64) x_c.Regs)] [(2, some ⟨3, []⟩), (0, some ⟨39, (B_39 x_c)⟩), (1, some ⟨39, (.nil :: zru39 [])⟩)] 3 ?_)
 obtain ⟨hg2, hh⟩ := grd_some hh
 refine ys (.app 3 1 8 [(ii 0)] (.t 3) (.t 5)) (some 6) (op_app (c := (eI .i64)) (xs := ([] : List Int)) (ys := x_c.Regs) (r := 2) (k := 0) (π := []) (by first | rfl | omega | (simp only [List.length_set, over_len, List.length_replicate, List.length_append, List.length_cons, List.length_nil, List.length_take, List.length_drop] <;> omega)) len_eI (rpv (by kernel_rfl) (rp_bor (c := (eI .i64)) (xs := x_c.Regs) len_eI)) (by kernel_rfl) (by kernel_rfl) hg2 ?_)
 let q1 : Root := ⟨39, (.sref 3 [] 0 (List.length (([] : List Int) ++ x_c.Regs)) 1 :: ru39 x_c [])⟩
 let q2 : Root := ⟨3, (fl (eI .i64) (([] : List Int) ++ x_c.Regs))⟩
 refine yt (sp 9 [(1, pp 0), (2, pp 1)]) [(0, some q1), (1, some ⟨39, (.nil :: zru39 [])⟩), (3, some q2)] 4 ?_
 refine sy [2] [1, 3] (sp 9 [(2, pp 1)]) [(1, some q1), (3, some q2)] 4 ?_
 refine Aw.ret ?_
 rw [some_some hh]
 exact gives (r' := .agg (.sref 3 [] 0 (List.length (([] : List Int) ++ x_c.Regs)) 1 :: ru39 x_c [])) (by kernel_rfl) (Ent.list [some 3] rfl rfl (Nat.zero_le _) (rens_1 (ren_agg (rens_c ren_sx (rens_i (rens_i (rens_i (rens_i (rens_b (rens_i (rens_i (rens_i (rens_b (rens_b (rens_b (rens_b rens_n))))))))))))))) (hq q2 (rens_same (noRefs_fl nr_eI)) hs_nil))
def Lf71_r0 : List LOper := [oo 1 (.box 43 (.t 0)), oo 2 (.fresh 43 [.nil, (ii 0), (ii 0), (ii 0), (ii 0), (bb false), (ii 0), (ii 0), (ii 0), (bb false), (bb false), (bb false), (bb false), .nil, .nil, .nil])]
def Lf71_r1 : List LOper := [oo 3 (.fadr 0 (.t 1)), oo 4 (.load true 13 (.t 3)), oo 5 (.call 94 [(.t 4)]), oo 6 (.bsl 3 1 0 [(ii 0)] []), oo 7 (.fadr 13 (.t 1)), oo 8 (.load false 1 (.t 7)), oo 9 (.app 3 1 8 [(ii 0)] (.t 6) (.t 8)), oo 10 (.bsl 3 1 0 [(ii 0)] []), oo 11 (.fadr 14 (.t 1)), oo 12 (.load false 1 (.t 11)), oo 13 (.app 3 1 8 [(ii 0)] (.t 10) (.t 12)), oo 14 (.bsl 3 1 0 [(ii 0)] []), oo 15 (.fadr 15 (.t 1)), oo 16 (.load false 1 (.t 15)), oo 17 (.app 3 1 8 [(ii 0)] (.t 14) (.t 16)), oo 18 (.bld [.nil, (ii 0), (ii 0), (ii 0), (ii 0), (bb false), (ii 0), (ii 0), (ii 0), (bb false), (bb false), (bb false), (bb false), .nil, .nil, .nil] [(0, (13, (.t 5))), (13, (1, (.t 9))), (14, (1, (.t 13))), (15, (1, (.t 17)))])]
def Lf71_r1t : List LOper := [⟨none, (.store 16 (.t 2) (.t 18)), none⟩]
def Lf71 : LFun := ⟨19, [(.cell 2 true 16)], (.seq (.reg false Lf71_r0) (.seq (.regd Lf71_r1 Lf71_r1t) .ret))⟩
theorem low_spec_l3Copy : lowFun Go.Proofs.Try.prog 71 = some Lf71 := by kernel_rfl
noncomputable def F_spec_l3Copy (x_b : DBare) : Option DBare :=
 Option.bind (F_spec_l3Core x_b.C) fun v1 =>
 grd (List.length x_b.Mem * 8 ≤ 2 ^ 47 ∧ List.length x_b.Mem ≤ 2 ^ 47) (grd (List.length x_b.In * 8 ≤ 2 ^ 47 ∧ List.length x_b.In ≤ 2 ^ 47) (grd (List.length x_b.Out * 8 ≤ 2 ^ 47 ∧ List.length x_b.Out ≤ 2 ^ 47) (some (DBare.mk v1 x_b.Mem x_b.In x_b.Out))))
theorem spec_l3Copy_fn {x_b : DBare} {R_ : DBare} (hh : F_spec_l3Copy x_b = some R_) : Fn Try.prog 71 [.agg (B_43 x_b)] (.agg (.own 3 1 (List.length R_.C.Regs) (fl (eI .i64) R_.C.Regs) :: ru39 R_.C [.own 3 1 (List.length R_.Mem) (fl (eI .i64) R_.Mem), .own 3 1 (List.length R_.In) (fl (eI .i64) R_.In), .own 3 1 (List.length R_.Out) (fl (eI .i64) R_.Out)])) := by
 unfold F_spec_l3Copy at hh
 refine Fn.start low_spec_l3Copy [0] (E := sp 19 [(0, .agg (B_43 x_b))]) (by kernel_rfl) (v := .agg (sw 0 R_.C.Regs :: ru39 R_.C [sw 1 R_.Mem, sw 2 R_.In, sw 3 R_.Out])) (Hr := [(3, some ⟨3, (fl (eI .i64) R_.Out)⟩), (2, some ⟨3, (fl (eI .i64) R_.In)⟩), (1, some ⟨3, (fl (eI .i64) R_.Mem)⟩), (0, some ⟨3, (fl (eI .i64) R_.C.Regs)⟩)]) (k := 4) (by kernel_rfl) ?_
 refine Aw.sreg [1, 2] [0, 1] ?_
 let q1 : Root := ⟨43, (.nil :: zru39 [.nil, .nil, .nil])⟩
 refine yt (sp 19 [(1, pp 0), (2, pp 1)]) [(0, some ⟨43, (B_43 x_b)⟩), (1, some q1)] 2 ?_
 refine Aw.sregd [2] [1, 2, 3, 4, 5] [] (by kernel_rfl) ?_
 refine dc (cs := []) (E' := (sp 19 [(1, pp 0), (2, pp 1), (3, pp 0), (4, .agg (B_39 x_b.C))])) (H' := [(0, some ⟨43, (B_43 x_b)⟩), (1, some q1)]) (n' := 2) (fs' := none) (pre := (List.take 2 Lf71_r1)) (L' := (List.drop 2 Lf71_r1)) (by kernel_rfl) (fun K => by kernel_rfl) .nil ?_
 obtain ⟨v1, hv1, hh⟩ := bind_some hh
 let q2 : Root := ⟨3, (fl (eI .i64) v1.Regs)⟩
 refine ds (.call 94 [(.t 4)]) (some 5) (ydo_n rfl (op_call (r := .agg (.own 3 1 (List.length v1.Regs) (fl (eI .i64) v1.Regs) :: ru39 v1 [])) (v := .agg (sw 2 v1.Regs :: ru39 v1 [])) (Hr := [(2, some q2)]) (n' := 3) (spec_l3Core_fn hv1) (clz_v (vs := [.agg (B_39 x_b.C)]) (by kernel_rfl) (clz_c (clo_same (clean_agg (cl_B_39 _))) clz_n)) (by simp only [ru39, AV.noRef, noRefs, Bool.and_self, noRefs_fl nr_eI]) (by simp only [ru39, AV.noBor, noBors, Bool.and_self, noBors_fl nb_eI]) (by kernel_rfl) ⟨⟨agr_name (n := 2) (n0 := 2) (r := .agg (.own 3 1 (List.length v1.Regs) (fl (eI .i64) v1.Regs) :: ru39 v1 [])) (v := .agg (sw 2 v1.Regs :: ru39 v1 [])) (Hr := [(2, some q2)]) (n' := 3) (by kernel_rfl) (by decide), Hld.un ?_⟩⟩))
 refine dc (cs := []) (E' := (sp 19 [(1, pp 0), (2, pp 1), (3, pp 0), (4, .agg (B_39 x_b.C)), (5, .agg (sw 2 v1.Regs :: ru39 v1 [])), (6, .emp), (7, .ptr 0 [] 13), (8, bo (eI .i64) x_b.Mem)])) (H' := [(2, some q2), (0, some ⟨43, (B_43 x_b)⟩), (1, some q1)]) (n' := 3) (fs' := none) (pre := (List.take 3 (List.drop 3 Lf71_r1))) (L' := (List.drop 6 Lf71_r1)) (by kernel_rfl) (fun K => by kernel_rfl) .nil ?_
 obtain ⟨hg6, hh⟩ := grd_some hh
 refine ds (.app 3 1 8 [(ii 0)] (.t 6) (.t 8)) (some 9) (ydo_n rfl (op_app0 (c := (eI .i64)) (ys := x_b.Mem) (rpv (by kernel_rfl) (rp_bor (c := (eI .i64)) (xs := x_b.Mem) len_eI)) (.inr (by kernel_rfl)) hg6 ⟨⟨Agr.cons (by decide), Hld.un ?_⟩⟩))
 let q3 : Root := ⟨3, (fl (eI .i64) x_b.Mem)⟩
 refine dc (cs := []) (E' := (sp 19 [(1, pp 0), (2, pp 1), (3, pp 0), (4, .agg (B_39 x_b.C)), (5, .agg (sw 2 v1.Regs :: ru39 v1 [])), (6, .emp), (7, .ptr 0 [] 13), (8, bo (eI .i64) x_b.Mem), (9, sw 3 x_b.Mem), (10, .emp), (11, .ptr 0 [] 14), (12, bo (eI .i64) x_b.In)])) (H' := [(3, some q3), (2, some q2), (0, some ⟨43, (B_43 x_b)⟩), (1, some q1)]) (n' := 4) (fs' := none) (pre := (List.take 3 (List.drop 7 Lf71_r1))) (L' := (List.drop 10 Lf71_r1)) (by kernel_rfl) (fun K => by kernel_rfl) .nil ?_
 obtain ⟨hg5, hh⟩ := grd_some hh
 refine ds (.app 3 1 8 [(ii 0)] (.t 10) (.t 12)) (some 13) (ydo_n rfl (op_app0 (c := (eI .i64)) (ys := x_b.In) (rpv (by kernel_rfl) (rp_bor (c := (eI .i64)) (xs := x_b.In) len_eI)) (.inr (by kernel_rfl)) hg5 ⟨⟨Agr.cons (by decide), Hld.un ?_⟩⟩))
 let q4 : Root := ⟨3, (fl (eI .i64) x_b.In)⟩
 refine dc (cs := []) (E' := (sp 19 [(1, pp 0), (2, pp 1), (3, pp 0), (4, .agg (B_39 x_b.C)), (5, .agg (sw 2 v1.Regs :: ru39 v1 [])), (6, .emp), (7, .ptr 0 [] 13), (8, bo (eI .i64) x_b.Mem), (9, sw 3 x_b.Mem), (10, .emp), (11, .ptr 0 [] 14), (12, bo (eI .i64) x_b.In), (13, sw 4 x_b.In), (14, .emp), (15, .ptr 0 [] 15), (16, bo (eI .i64) x_b.Out)])) (H' := [(4, some q4), (3, some q3), (2, some q2), (0, some ⟨43, (B_43 x_b)⟩), (1, some q1)]) (n' := 5) (fs' := none) (pre := (List.take 3 (List.drop 11 Lf71_r1))) (L' := (List.drop 14 Lf71_r1)) (by kernel_rfl) (fun K => by kernel_rfl) .nil ?_
 obtain ⟨hg4, hh⟩ := grd_some hh
 refine ds (.app 3 1 8 [(ii 0)] (.t 14) (.t 16)) (some 17) (ydo_n rfl (op_app0 (c := (eI .i64)) (ys := x_b.Out) (rpv (by kernel_rfl) (rp_bor (c := (eI .i64)) (xs := x_b.Out) len_eI)) (.inr (by kernel_rfl)) hg4 ⟨⟨Agr.cons (by decide), Hld.un ?_⟩⟩))
 let q5 : Root := ⟨3, (fl (eI .i64) x_b.Out)⟩
 refine dct (cs := []) (E' := (sp 19 [(1, pp 0), (2, pp 1), (3, pp 0), (4, .agg (B_39 x_b.C)), (5, .agg (sw 2 v1.Regs :: ru39 v1 [])), (6, .emp), (7, .ptr 0 [] 13), (8, bo (eI .i64) x_b.Mem), (9, sw 3 x_b.Mem), (10, .emp), (11, .ptr 0 [] 14), (12, bo (eI .i64) x_b.In), (13, sw 4 x_b.In), (14, .emp), (15, .ptr 0 [] 15), (16, bo (eI .i64) x_b.Out), (17, sw 5 x_b.Out), (18, .agg (sw 2 v1.Regs :: ru39 v1 [sw 3 x_b.Mem, sw 4 x_b.In, sw 5 x_b.Out]))])) (H' := [(5, some q5), (4, some q4), (3, some q3), (2, some q2), (0, some ⟨43, (B_43 x_b)⟩), (1, some q1)]) (n' := 6) (fun K => by kernel_rfl) .nil ?_
 refine yt (sp 19 [(2, pp 1)]) [(1, some ⟨43, (sw 2 v1.Regs :: ru39 v1 [sw 3 x_b.Mem, sw 4 x_b.In, sw 5 x_b.Out])⟩), (2, some q2), (3, some q3), (4, some q4), (5, some q5)] 6 ?_
 refine Aw.ret ?_
 rw [some_some hh]
 exact gives (r' := .agg (sw 2 v1.Regs :: ru39 v1 [sw 3 x_b.Mem, sw 4 x_b.In, sw 5 x_b.Out])) (by kernel_rfl) (Ent.list [some 2, some 3, some 4, some 5] rfl rfl (Nat.zero_le _) (rens_1 (ren_agg (rens_c ren_sx (rens_i (rens_i (rens_i (rens_i (rens_b (rens_i (rens_i (rens_i (rens_b (rens_b (rens_b (rens_b (rens_c ren_sx (rens_c ren_sx (rens_c ren_sx rens_n)))))))))))))))))) (hq q5 (rens_same (noRefs_fl nr_eI)) (hq q4 (rens_same (noRefs_fl nr_eI)) (hq q3 (rens_same (noRefs_fl nr_eI)) (hq q2 (rens_same (noRefs_fl nr_eI)) hs_nil)))))
def Lf73_r0 : List LOper := [oo 4 (.box 39 (.t 0)), oo 8 (.fresh 39 [.nil, (ii 0), (ii 0), (ii 0), (ii 0), (bb false), (ii 0), (ii 0), (ii 0), (bb false), (bb false), (bb false), (bb false)])]
def Lf73_r1 : List LOper := [om 9 1, oo 10 (.fadr 4 (.t 4)), ⟨none, (.store 1 (.t 10) (.t 9)), none⟩]
def Lf73_r2 : List LOper := [oo 11 (.fadr 10 (.t 4)), oo 12 (.load false 1 (.t 11)), oo 13 (.fadr 5 (.t 4)), ⟨none, (.store 1 (.t 13) (.t 12)), none⟩]
def Lf73_r3 : List LOper := [oo 14 (.fadr 10 (.t 4)), ⟨none, (.store 1 (.t 14) (.c (bb false))), none⟩]
def Lf73_r4 : List LOper := [oo 15 (.fadr 11 (.t 4)), ⟨none, (.store 1 (.t 15) (.c (bb false))), none⟩]
def Lf73_r5 : List LOper := [oo 16 (.fadr 3 (.t 4)), oo 17 (.load false 1 (.t 16)), oo 18 (.fadr 1 (.t 4)), ⟨none, (.store 1 (.t 18) (.t 17)), none⟩]
def Lf73_r6 : List LOper := [om 19 2, oo 20 (.fadr 6 (.t 4)), ⟨none, (.store 1 (.t 20) (.t 19)), none⟩]
def Lf73_r7 : List LOper := [om 21 3, oo 22 (.fadr 7 (.t 4)), ⟨none, (.store 1 (.t 22) (.t 21)), none⟩]
def Lf73_r8 : List LOper := [oo 23 (.load true 13 (.t 4)), ⟨none, (.store 13 (.t 8) (.t 23)), none⟩]
def Lf73 : LFun := ⟨24, [(.cell 8 true 13)], (.seq (.reg false Lf73_r0) (.seq (.reg false Lf73_r1) (.seq (.reg false Lf73_r2) (.seq (.reg false Lf73_r3) (.seq (.reg false Lf73_r4) (.seq (.reg false Lf73_r5) (.seq (.reg false Lf73_r6) (.seq (.reg false Lf73_r7) (.seq (.reg false Lf73_r8) .ret)))))))))⟩
theorem low_spec_l3Trap : lowFun Go.Proofs.Try.prog 73 = some Lf73 := by kernel_rfl
noncomputable def F_spec_l3Trap (x_c : DCore) (x_from : Int) (x_cause : Int) (x_bad : Int) : Option DCore :=
 some (DCore.mk x_c.Regs x_c.Vector x_c.Root x_c.Vector x_from x_c.User x_cause x_bad x_c.Timer x_c.Waits false false x_c.Stopped)
theorem spec_l3Trap_fn {x_c : DCore} {x_from : Int} {x_cause : Int} {x_bad : Int} {R_ : DCore} (hh : F_spec_l3Trap x_c x_from x_cause x_bad = some R_) : Inl Try.prog 73 [.agg (.sref 0 [] 0 (List.length x_c.Regs) 1 :: ru39 x_c []), .int .i64 x_from, .int .i64 x_cause, .int .i64 x_bad] [(0, some ⟨3, (fl (eI .i64) x_c.Regs)⟩)] 1 (.agg (.sref 1 [] 0 (List.length R_.Regs) 1 :: ru39 R_ [])) [(1, some ⟨3, (fl (eI .i64) R_.Regs)⟩)] 2 := by
 unfold F_spec_l3Trap at hh
 let q1 : Root := ⟨3, (fl (eI .i64) x_c.Regs)⟩
 refine Inl.start low_spec_l3Trap [0, 1, 2, 3] [0] (E := sp 24 [(0, .agg (sw 0 x_c.Regs :: ru39 x_c [])), (1, ii x_from), (2, ii x_cause), (3, ii x_bad)]) (H1 := [(0, some q1)]) (by kernel_rfl) (by kernel_rfl) ?_
 refine sy [1, 2, 3, 4, 8] [0, 1, 2] (sp 24 [(1, ii x_from), (2, ii x_cause), (3, ii x_bad), (4, pp 1), (8, pp 2)]) [(0, some q1), (1, some ⟨39, (sw 0 x_c.Regs :: ru39 x_c [])⟩), (2, some ⟨39, (.nil :: zru39 [])⟩)] 3 ?_
 refine sy [2, 3, 4, 8] [0, 1, 2] (sp 24 [(2, ii x_cause), (3, ii x_bad), (4, pp 1), (8, pp 2)]) [(0, some q1), (1, some ⟨39, [sw 0 x_c.Regs, ii x_c.Pc, ii x_c.Root, ii x_c.Vector, ii x_from, bb x_c.SavedUser, ii x_c.Cause, ii x_c.Bad, ii x_c.Timer, bb x_c.Waits, bb x_c.User, bb x_c.On, bb x_c.Stopped]⟩), (2, some ⟨39, (.nil :: zru39 [])⟩)] 3 ?_
 refine sy [2, 3, 4, 8] [0, 1, 2] (sp 24 [(2, ii x_cause), (3, ii x_bad), (4, pp 1), (8, pp 2)]) [(0, some q1), (1, some ⟨39, [sw 0 x_c.Regs, ii x_c.Pc, ii x_c.Root, ii x_c.Vector, ii x_from, bb x_c.User, ii x_c.Cause, ii x_c.Bad, ii x_c.Timer, bb x_c.Waits, bb x_c.User, bb x_c.On, bb x_c.Stopped]⟩), (2, some ⟨39, (.nil :: zru39 [])⟩)] 3 ?_
 refine sy [2, 3, 4, 8] [0, 1, 2] (sp 24 [(2, ii x_cause), (3, ii x_bad), (4, pp 1), (8, pp 2)]) [(0, some q1), (1, some ⟨39, [sw 0 x_c.Regs, ii x_c.Pc, ii x_c.Root, ii x_c.Vector, ii x_from, bb x_c.User, ii x_c.Cause, ii x_c.Bad, ii x_c.Timer, bb x_c.Waits, bb false, bb x_c.On, bb x_c.Stopped]⟩), (2, some ⟨39, (.nil :: zru39 [])⟩)] 3 ?_
 refine sy [2, 3, 4, 8] [0, 1, 2] (sp 24 [(2, ii x_cause), (3, ii x_bad), (4, pp 1), (8, pp 2)]) [(0, some q1), (1, some ⟨39, [sw 0 x_c.Regs, ii x_c.Pc, ii x_c.Root, ii x_c.Vector, ii x_from, bb x_c.User, ii x_c.Cause, ii x_c.Bad, ii x_c.Timer, bb x_c.Waits, bb false, bb false, bb x_c.Stopped]⟩), (2, some ⟨39, (.nil :: zru39 [])⟩)] 3 ?_
 refine sy [2, 3, 4, 8] [0, 1, 2] (sp 24 [(2, ii x_cause), (3, ii x_bad), (4, pp 1), (8, pp 2)]) [(0, some q1), (1, some ⟨39, [sw 0 x_c.Regs, ii x_c.Vector, ii x_c.Root, ii x_c.Vector, ii x_from, bb x_c.User, ii x_c.Cause, ii x_c.Bad, ii x_c.Timer, bb x_c.Waits, bb false, bb false, bb x_c.Stopped]⟩), (2, some ⟨39, (.nil :: zru39 [])⟩)] 3 ?_
 refine sy [3, 4, 8] [0, 1, 2] (sp 24 [(3, ii x_bad), (4, pp 1), (8, pp 2)]) [(0, some q1), (1, some ⟨39, [sw 0 x_c.Regs, ii x_c.Vector, ii x_c.Root, ii x_c.Vector, ii x_from, bb x_c.User, ii x_cause, ii x_c.Bad, ii x_c.Timer, bb x_c.Waits, bb false, bb false, bb x_c.Stopped]⟩), (2, some ⟨39, (.nil :: zru39 [])⟩)] 3 ?_
 refine Aw.sreg [4, 8] [0, 1, 2] ?_
 let q2 : Root := ⟨39, [sw 0 x_c.Regs, ii x_c.Vector, ii x_c.Root, ii x_c.Vector, ii x_from, bb x_c.User, ii x_cause, ii x_bad, ii x_c.Timer, bb x_c.Waits, bb false, bb false, bb x_c.Stopped]⟩
 refine yt (sp 24 [(4, pp 1), (8, pp 2)]) [(0, some q1), (1, some q2), (2, some ⟨39, (.nil :: zru39 [])⟩)] 3 ?_
 refine sy [8] [0, 2] (sp 24 [(8, pp 2)]) [(0, some q1), (2, some q2)] 3 ?_
 refine Aw.ret ?_
 rw [some_some hh]
 exact gives (r' := .agg [sw 0 x_c.Regs, ii x_c.Vector, ii x_c.Root, ii x_c.Vector, ii x_from, bb x_c.User, ii x_cause, ii x_bad, ii x_c.Timer, bb x_c.Waits, bb false, bb false, bb x_c.Stopped]) (by kernel_rfl) (Ent.list2 [some 0, some 0] rfl rfl (by decide) (rens_1 (ren_agg (rens_c ren_sx (rens_i (rens_i (rens_i (rens_i (rens_b (rens_i (rens_i (rens_i (rens_b (rens_b (rens_b (rens_b rens_n))))))))))))))) (hq q1 (rens_same (noRefs_fl nr_eI)) hs_nil))
def Lf72_r0 : List LOper := [oo 1 (.box 39 (.t 0)), oo 2 (.fresh 39 [.nil, (ii 0), (ii 0), (ii 0), (ii 0), (bb false), (ii 0), (ii 0), (ii 0), (bb false), (bb false), (bb false), (bb false)]), oo 3 (.mv (.c (bb false)))]
def Lf72_r1 : List LOper := [oo 4 (.fadr 8 (.t 1)), oo 5 (.load false 1 (.t 4)), oo 6 (.bin .gtr (.t 5) (.c (ii 0)))]
def Lf72_r2 : List LOper := [oo 7 (.fadr 8 (.t 1)), oo 8 (.load false 1 (.t 7)), oo 9 (.bin .sub (.t 8) (.c (ii 1))), oo 10 (.fadr 8 (.t 1)), ⟨none, (.store 1 (.t 10) (.t 9)), none⟩]
def Lf72_r3 : List LOper := [oo 11 (.fadr 8 (.t 1)), oo 12 (.load false 1 (.t 11)), oo 13 (.bin .eql (.t 12) (.c (ii 0)))]
def Lf72_r4 : List LOper := [oo 14 (.fadr 9 (.t 1)), ⟨none, (.store 1 (.t 14) (.c (bb true))), none⟩]
def Lf72_r5 : List LOper := [oo 15 (.fadr 9 (.t 1)), oo 16 (.load false 1 (.t 15)), om 17 16, ⟨(some 18), (.fadr 11 (.t 1)), (some (17, true))⟩, ⟨(some 19), (.load false 1 (.t 18)), (some (17, true))⟩, oo 20 (.pick (.t 17) (.t 19) (.c (bb false)))]
def Lf72_r6 : List LOper := [oo 21 (.fadr 9 (.t 1)), ⟨none, (.store 1 (.t 21) (.c (bb false))), none⟩]
def Lf72_r7 : List LOper := [oo 22 (.load true 13 (.t 1)), oo 23 (.fadr 1 (.t 1)), oo 24 (.load false 1 (.t 23)), oo 25 (.call 73 [(.t 22), (.t 24), (.c (ii 4)), (.c (ii 0))]), ⟨none, (.store 13 (.t 2) (.t 25)), none⟩, oo 3 (.mv (.c (bb true)))]
def Lf72_r8 : List LOper := [oo 26 (.load true 13 (.t 1)), ⟨none, (.store 13 (.t 2) (.t 26)), none⟩, oo 3 (.mv (.c (bb false)))]
def Lf72 : LFun := ⟨27, [(.cell 2 true 13), (.tmp 3)], (.seq (.reg false Lf72_r0) (.seq (.seq (.reg false Lf72_r1) (.cond (.t 6) (.seq (.reg false Lf72_r2) (.seq (.reg false Lf72_r3) (.cond (.t 13) (.reg false Lf72_r4) .skip))) .skip)) (.seq (.seq (.reg false Lf72_r5) (.cond (.t 20) (.seq (.reg false Lf72_r6) (.seq (.reg false Lf72_r7) .ret)) .skip)) (.seq (.reg false Lf72_r8) .ret))))⟩
theorem low_spec_l3Ticked : lowFun Go.Proofs.Try.prog 72 = some Lf72 := by kernel_rfl
noncomputable def F_spec_l3Ticked_j2 (x_c : DCore) (s1 : Bool × Int) (s2 : Unit) : Option (DCore × Bool) :=
 some ((DCore.mk x_c.Regs x_c.Pc x_c.Root x_c.Vector x_c.Saved x_c.SavedUser x_c.Cause x_c.Bad s1.2 s1.1 x_c.User x_c.On x_c.Stopped), false)
noncomputable def F_spec_l3Ticked_j1 (x_c : DCore) (s1 : Bool × Int) : Option (DCore × Bool) :=
 Option.bind (cond s1.1
  (cond x_c.On
   (Option.bind (F_spec_l3Trap (DCore.mk x_c.Regs x_c.Pc x_c.Root x_c.Vector x_c.Saved x_c.SavedUser x_c.Cause x_c.Bad s1.2 false x_c.User x_c.On x_c.Stopped) x_c.Pc (4 : Int) (0 : Int)) fun v3 =>
   some (.out (v3, true)))
   (some (.go ())))
  (some (.go ()))) fun j2 =>
  JO.run j2 (F_spec_l3Ticked_j2 x_c s1)
noncomputable def F_spec_l3Ticked (x_c : DCore) : Option (DCore × Bool) :=
 Option.bind (cond (decide ((0 : Int) < x_c.Timer))
  (cond (decide ((w64 (x_c.Timer - (1 : Int))) = (0 : Int)))
   (some (.go (true, (w64 (x_c.Timer - (1 : Int))))))
   (some (.go (x_c.Waits, (w64 (x_c.Timer - (1 : Int)))))))
  (some (.go (x_c.Waits, x_c.Timer)))) fun j1 =>
  JO.run j1 (F_spec_l3Ticked_j1 x_c)
theorem spec_l3Ticked_fn {x_c : DCore} {R_ : DCore × Bool} (hh : F_spec_l3Ticked x_c = some R_) : Inl Try.prog 72 [.agg (.sref 0 [] 0 (List.length x_c.Regs) 1 :: ru39 x_c [])] [(0, some ⟨3, (fl (eI .i64) x_c.Regs)⟩)] 1 (.tup [.agg (.sref 1 [] 0 (List.length R_.1.Regs) 1 :: ru39 R_.1 []), .bool R_.2]) [(1, some ⟨3, (fl (eI .i64) R_.1.Regs)⟩)] 2 := by
 unfold F_spec_l3Ticked at hh
 let q1 : Root := ⟨3, (fl (eI .i64) x_c.Regs)⟩
 refine Inl.start low_spec_l3Ticked [0] [0] (E := sp 27 [(0, .agg (sw 0 x_c.Regs :: ru39 x_c []))]) (H1 := [(0, some q1)]) (by kernel_rfl) (by kernel_rfl) ?_
 refine Aw.sreg [1, 2] [0, 1, 2] ?_
 let q2 : Root := ⟨39, (sw 0 x_c.Regs :: ru39 x_c [])⟩
 refine yt (sp 27 [(1, pp 1), (2, pp 2)]) [(0, some q1), (1, some q2), (2, some ⟨39, (.nil :: zru39 [])⟩)] 3 ?_
 obtain ⟨j1, hh, hk1⟩ := bind_some hh
 refine Aw.join (S := Bool × Int) (fun s1 => sp 27 [(1, pp 2), (2, pp 3)]) (fun s1 => [(1, some ⟨3, (fl (eI .i64) x_c.Regs)⟩), (2, some ⟨39, [sw 1 x_c.Regs, ii x_c.Pc, ii x_c.Root, ii x_c.Vector, ii x_c.Saved, bb x_c.SavedUser, ii x_c.Cause, ii x_c.Bad, ii s1.2, bb s1.1, bb x_c.User, bb x_c.On, bb x_c.Stopped]⟩), (3, some ⟨39, (.nil :: zru39 [])⟩)]) 4 (fun s1 => F_spec_l3Ticked_j1 x_c s1 = some R_) ?_ ?_
 · intro s1 hh
   unfold F_spec_l3Ticked_j1 at hh
   obtain ⟨j2, hh, hk2⟩ := bind_some hh
   refine Aw.join (S := Unit) (fun s2 => sp 27 [(1, pp 2), (2, pp 4)]) (fun s2 => [(2, some ⟨39, [sw 3 x_c.Regs, ii x_c.Pc, ii x_c.Root, ii x_c.Vector, ii x_c.Saved, bb x_c.SavedUser, ii x_c.Cause, ii x_c.Bad, ii s1.2, bb s1.1, bb x_c.User, bb x_c.On, bb x_c.Stopped]⟩), (3, some ⟨3, (fl (eI .i64) x_c.Regs)⟩), (4, some ⟨39, (.nil :: zru39 [])⟩)]) 5 (fun s2 => F_spec_l3Ticked_j2 x_c s1 s2 = some R_) ?_ ?_
   · intro s2 hh
     unfold F_spec_l3Ticked_j2 at hh
     refine sy [2, 3] [3, 4] (sp 27 [(2, pp 4), (3, bb false)]) [(3, some q1), (4, some ⟨39, [sw 3 x_c.Regs, ii x_c.Pc, ii x_c.Root, ii x_c.Vector, ii x_c.Saved, bb x_c.SavedUser, ii x_c.Cause, ii x_c.Bad, ii s1.2, bb s1.1, bb x_c.User, bb x_c.On, bb x_c.Stopped]⟩)] 5 ?_
     refine Aw.ret ?_
     rw [some_some hh]
     exact gives (r' := .tup [.agg [sw 3 x_c.Regs, ii x_c.Pc, ii x_c.Root, ii x_c.Vector, ii x_c.Saved, bb x_c.SavedUser, ii x_c.Cause, ii x_c.Bad, ii s1.2, bb s1.1, bb x_c.User, bb x_c.On, bb x_c.Stopped], bb false]) (by kernel_rfl) (Ent.list2 [some 0, some 3] rfl rfl (by decide) (rens_1 (ren_tup (rens_c (ren_agg (rens_c ren_sx (rens_i (rens_i (rens_i (rens_i (rens_b (rens_i (rens_i (rens_i (rens_b (rens_b (rens_b (rens_b rens_n)))))))))))))) (rens_b rens_n)))) (hq q1 (rens_same (noRefs_fl nr_eI)) hs_nil))
   intro Q2 hN2 hR2 hE2
   refine Aw.sreg [1, 2, 20] [1, 2, 3] ?_
   let q3 : Root := ⟨39, [sw 1 x_c.Regs, ii x_c.Pc, ii x_c.Root, ii x_c.Vector, ii x_c.Saved, bb x_c.SavedUser, ii x_c.Cause, ii x_c.Bad, ii s1.2, bb s1.1, bb x_c.User, bb x_c.On, bb x_c.Stopped]⟩
   refine yj 3  (sp 27 [(1, pp 2), (2, pp 3), (15, .ptr 2 [] 9), (16, bb s1.1), (17, bb s1.1)]) [(1, some q1), (2, some q3), (3, some ⟨39, (.nil :: zru39 [])⟩)] 4 ?_
   rcases cond_some hh with ⟨hb, hh⟩ | ⟨hb, hh⟩
   · refine yb 16 hb ?_
     refine yb 17 hb ?_
     refine yt (sp 27 [(1, pp 2), (2, pp 3), (20, bb x_c.On)]) [(1, some q1), (2, some q3), (3, some ⟨39, (.nil :: zru39 [])⟩)] 4 ?_
     rcases cond_some hh with ⟨hb, hh⟩ | ⟨hb, hh⟩
     · refine cT hb ?_
       refine Aw.sreg [1, 2] [1, 2, 3] ?_
       let q4 : Root := ⟨39, [sw 1 x_c.Regs, ii x_c.Pc, ii x_c.Root, ii x_c.Vector, ii x_c.Saved, bb x_c.SavedUser, ii x_c.Cause, ii x_c.Bad, ii s1.2, bb false, bb x_c.User, bb x_c.On, bb x_c.Stopped]⟩
       refine yt (sp 27 [(1, pp 2), (2, pp 3)]) [(1, some q1), (2, some q4), (3, some ⟨39, (.nil :: zru39 [])⟩)] 4 ?_
       refine Aw.sreg [2, 3] [3, 4] (yu 3 [(22, .agg [sw 1 x_c.Regs, ii x_c.Pc, ii x_c.Root, ii x_c.Vector, ii x_c.Saved, bb x_c.SavedUser, ii x_c.Cause, ii x_c.Bad, ii s1.2, bb false, bb x_c.User, bb x_c.On, bb x_c.Stopped]), (23, .ptr 2 [] 1), (24, ii x_c.Pc)] [(1, some q1), (2, some q4), (3, some ⟨39, (.nil :: zru39 [])⟩)] 4 ?_)
       obtain ⟨v3, hv3, hh⟩ := bind_some hh
       let q5 : Root := ⟨3, (fl (eI .i64) v3.Regs)⟩
       refine ys (.call 73 [(.t 22), (.t 24), (.c (ii 4)), (.c (ii 0))]) (some 25) (op_callf (v' := .agg (sw 4 v3.Regs :: ru39 v3 [])) (Hp' := [(4, some q5)]) (n' := 5) [1] (spec_l3Trap_fn hv3) (args' := [.agg [sw 1 x_c.Regs, ii x_c.Pc, ii x_c.Root, ii x_c.Vector, ii x_c.Saved, bb x_c.SavedUser, ii x_c.Cause, ii x_c.Bad, ii s1.2, bb false, bb x_c.User, bb x_c.On, bb x_c.Stopped], ii x_c.Pc, ii 4, ii 0]) (by kernel_rfl) rfl rfl rfl (rens_c (ren_agg (rens_c ren_sx (rens_i (rens_i (rens_i (rens_i (rens_b (rens_i (rens_i (rens_i (rens_b (rens_b (rens_b (rens_b rens_n)))))))))))))) (rens_i (rens_i (rens_i rens_n)))) rfl (hq q1 (rens_same (noRefs_fl nr_eI)) hs_nil) (ren_agg (rens_c ren_sx (rens_i (rens_i (rens_i (rens_i (rens_b (rens_i (rens_i (rens_i (rens_b (rens_b (rens_b (rens_b rens_n)))))))))))))) rfl (hq q5 (rens_same (noRefs_fl nr_eI)) hs_nil) rfl ?_)
       refine yt (sp 27 [(2, pp 3), (3, bb true)]) [(3, some ⟨39, (sw 4 v3.Regs :: ru39 v3 [])⟩), (4, some q5)] 5 ?_
       refine Aw.ret ?_
       obtain rfl := some_some hh
       refine hR2 _ _ _ ?_
       refine ?_
       rw [some_some hk2]
       exact gives (r' := .tup [.agg (sw 4 v3.Regs :: ru39 v3 []), bb true]) (by kernel_rfl) (Ent.list2 [some 0, some 4] rfl rfl (by decide) (rens_1 (ren_tup (rens_c (ren_agg (rens_c ren_sx (rens_i (rens_i (rens_i (rens_i (rens_b (rens_i (rens_i (rens_i (rens_b (rens_b (rens_b (rens_b rens_n)))))))))))))) (rens_b rens_n)))) (hq q5 (rens_same (noRefs_fl nr_eI)) hs_nil))
     refine cF hb ?_
     refine Aw.skip ?_
     obtain rfl := some_some hh
     exact hN2 () _ _ _ hk2 (Ent.list2 [some 0, none, some 2, some 1, some 3] rfl rfl (by decide) (rens_sp (by kernel_rfl) (rl_c (u := pp 2) (by kernel_rfl) (ren_p (by decide) rfl) (rl_c (u := pp 3) (by kernel_rfl) (ren_p (by decide) rfl) rl_n))) (hq q3 (rens_c ren_sx (rens_i (rens_i (rens_i (rens_i (rens_b (rens_i (rens_i (rens_i (rens_b (rens_b (rens_b (rens_b rens_n))))))))))))) (hq q1 (rens_same (noRefs_fl nr_eI)) (hq ⟨39, (.nil :: zru39 [])⟩ (rens_c ren_nil (rens_i (rens_i (rens_i (rens_i (rens_b (rens_i (rens_i (rens_i (rens_b (rens_b (rens_b (rens_b rens_n))))))))))))) hs_nil))))
   refine yb 16 hb ?_
   refine yb 17 hb ?_
   refine yt (sp 27 [(1, pp 2), (2, pp 3), (20, bb false)]) [(1, some q1), (2, some q3), (3, some ⟨39, (.nil :: zru39 [])⟩)] 4 ?_
   refine cF rfl ?_
   refine Aw.skip ?_
   obtain rfl := some_some hh
   exact hN2 () _ _ _ hk2 (Ent.list2 [some 0, none, some 2, some 1, some 3] rfl rfl (by decide) (rens_sp (by kernel_rfl) (rl_c (u := pp 2) (by kernel_rfl) (ren_p (by decide) rfl) (rl_c (u := pp 3) (by kernel_rfl) (ren_p (by decide) rfl) rl_n))) (hq q3 (rens_c ren_sx (rens_i (rens_i (rens_i (rens_i (rens_b (rens_i (rens_i (rens_i (rens_b (rens_b (rens_b (rens_b rens_n))))))))))))) (hq q1 (rens_same (noRefs_fl nr_eI)) (hq ⟨39, (.nil :: zru39 [])⟩ (rens_c ren_nil (rens_i (rens_i (rens_i (rens_i (rens_b (rens_i (rens_i (rens_i (rens_b (rens_b (rens_b (rens_b rens_n))))))))))))) hs_nil))))
 intro Q1 hN1 hR1 hE1
 refine sy [1, 2, 6] [0, 1, 2] (sp 27 [(1, pp 1), (2, pp 2), (6, bb (decide ((0 : Int) < x_c.Timer)))]) [(0, some q1), (1, some q2), (2, some ⟨39, (.nil :: zru39 [])⟩)] 3 ?_
 rcases cond_some hh with ⟨hb, hh⟩ | ⟨hb, hh⟩
 · refine cT hb ?_
   refine Aw.sreg [1, 2] [0, 1, 2] ?_
   let q6 : Root := ⟨39, [sw 0 x_c.Regs, ii x_c.Pc, ii x_c.Root, ii x_c.Vector, ii x_c.Saved, bb x_c.SavedUser, ii x_c.Cause, ii x_c.Bad, ii (w64 (x_c.Timer - (1 : Int))), bb x_c.Waits, bb x_c.User, bb x_c.On, bb x_c.Stopped]⟩
   refine yt (sp 27 [(1, pp 1), (2, pp 2)]) [(0, some q1), (1, some q6), (2, some ⟨39, (.nil :: zru39 [])⟩)] 3 ?_
   refine sy [1, 2, 13] [0, 1, 2] (sp 27 [(1, pp 1), (2, pp 2), (13, bb (decide ((w64 (x_c.Timer - (1 : Int))) = (0 : Int))))]) [(0, some q1), (1, some q6), (2, some ⟨39, (.nil :: zru39 [])⟩)] 3 ?_
   rcases cond_some hh with ⟨hb, hh⟩ | ⟨hb, hh⟩
   · refine cT hb ?_
     refine Aw.oreg ?_
     let q7 : Root := ⟨39, [sw 0 x_c.Regs, ii x_c.Pc, ii x_c.Root, ii x_c.Vector, ii x_c.Saved, bb x_c.SavedUser, ii x_c.Cause, ii x_c.Bad, ii (w64 (x_c.Timer - (1 : Int))), bb true, bb x_c.User, bb x_c.On, bb x_c.Stopped]⟩
     refine ye (sp 27 [(1, pp 1), (2, pp 2), (13, bb (decide ((w64 (x_c.Timer - (1 : Int))) = (0 : Int)))), (14, .ptr 1 [] 9)]) [(1, some q7), (0, some q1), (1, some q6), (2, some ⟨39, (.nil :: zru39 [])⟩)] 3 ?_
     obtain rfl := some_some hh
     exact hN1 (true, (w64 (x_c.Timer - (1 : Int)))) _ _ _ hk1 (Ent.list2 [some 0, some 0, some 1, some 2] rfl rfl (by decide) (rens_sp (by kernel_rfl) (rl_c (u := pp 1) (by kernel_rfl) (ren_p (by decide) rfl) (rl_c (u := pp 2) (by kernel_rfl) (ren_p (by decide) rfl) rl_n))) (hq q1 (rens_same (noRefs_fl nr_eI)) (hq q7 (rens_c ren_sx (rens_i (rens_i (rens_i (rens_i (rens_b (rens_i (rens_i (rens_i (rens_b (rens_b (rens_b (rens_b rens_n))))))))))))) (hq ⟨39, (.nil :: zru39 [])⟩ (rens_c ren_nil (rens_i (rens_i (rens_i (rens_i (rens_b (rens_i (rens_i (rens_i (rens_b (rens_b (rens_b (rens_b rens_n))))))))))))) hs_nil))))
   refine cF hb ?_
   refine Aw.skip ?_
   obtain rfl := some_some hh
   exact hN1 (x_c.Waits, (w64 (x_c.Timer - (1 : Int)))) _ _ _ hk1 (Ent.list2 [some 0, some 0, some 1, some 2] rfl rfl (by decide) (rens_sp (by kernel_rfl) (rl_c (u := pp 1) (by kernel_rfl) (ren_p (by decide) rfl) (rl_c (u := pp 2) (by kernel_rfl) (ren_p (by decide) rfl) rl_n))) (hq q1 (rens_same (noRefs_fl nr_eI)) (hq q6 (rens_c ren_sx (rens_i (rens_i (rens_i (rens_i (rens_b (rens_i (rens_i (rens_i (rens_b (rens_b (rens_b (rens_b rens_n))))))))))))) (hq ⟨39, (.nil :: zru39 [])⟩ (rens_c ren_nil (rens_i (rens_i (rens_i (rens_i (rens_b (rens_i (rens_i (rens_i (rens_b (rens_b (rens_b (rens_b rens_n))))))))))))) hs_nil))))
 refine cF hb ?_
 refine Aw.skip ?_
 obtain rfl := some_some hh
 exact hN1 (x_c.Waits, x_c.Timer) _ _ _ hk1 (Ent.list2 [some 0, some 0, some 1, some 2] rfl rfl (by decide) (rens_sp (by kernel_rfl) (rl_c (u := pp 1) (by kernel_rfl) (ren_p (by decide) rfl) (rl_c (u := pp 2) (by kernel_rfl) (ren_p (by decide) rfl) rl_n))) (hq q1 (rens_same (noRefs_fl nr_eI)) (hq q2 (rens_c ren_sx (rens_i (rens_i (rens_i (rens_i (rens_b (rens_i (rens_i (rens_i (rens_b (rens_b (rens_b (rens_b rens_n))))))))))))) (hq ⟨39, (.nil :: zru39 [])⟩ (rens_c ren_nil (rens_i (rens_i (rens_i (rens_i (rens_b (rens_i (rens_i (rens_i (rens_b (rens_b (rens_b (rens_b rens_n))))))))))))) hs_nil))))
def Lf74_r0 : List LOper := [oo 2 (.fresh 76 [(ii 0), (ii 0), (ii 0)])]
def Lf74_r1 : List LOper := [om 3 0, oo 4 (.call 54 [(.t 3)]), oo 5 (.un .not (.t 4))]
def Lf74_r2 : List LOper := [oo 6 (.bld [(ii 0), (ii 0), (ii 0)] []), ⟨none, (.store 3 (.t 2) (.t 6)), none⟩]
def Lf74_r3 : List LOper := [om 7 0, oo 8 (.bin .quo (.t 7) (.c (ii 256))), om 9 0, oo 10 (.bin .quo (.t 9) (.c (ii 64))), oo 11 (.bin .rem (.t 10) (.c (ii 4))), om 12 0, oo 13 (.bin .rem (.t 12) (.c (ii 64))), oo 14 (.bld [(ii 0), (ii 0), (ii 0)] [(0, (1, (.t 8))), (1, (1, (.t 11))), (2, (1, (.t 13)))]), ⟨none, (.store 3 (.t 2) (.t 14)), none⟩]
def Lf74 : LFun := ⟨15, [(.cell 2 true 3)], (.seq (.reg false Lf74_r0) (.seq (.seq (.reg false Lf74_r1) (.cond (.t 5) (.seq (.reg false Lf74_r2) .ret) .skip)) (.seq (.reg false Lf74_r3) .ret)))⟩
theorem low_spec_InsFrom : lowFun Go.Proofs.Try.prog 74 = some Lf74 := by kernel_rfl
noncomputable def F_spec_InsFrom (x_w : Int) : Option DIns :=
 Option.bind (F_spec_WordOk x_w) fun v1 =>
 cond (!v1)
  (some (DIns.mk (0 : Int) (0 : Int) (0 : Int)))
  (some (DIns.mk (w64 (Int.tdiv x_w (256 : Int))) (Int.tmod (w64 (Int.tdiv x_w (64 : Int))) (4 : Int)) (Int.tmod x_w (64 : Int))))
theorem spec_InsFrom_fn {x_w : Int} {R_ : DIns} (hh : F_spec_InsFrom x_w = some R_) : Fn Try.prog 74 [.int .i64 x_w] (.agg [.int .i64 R_.Op, .int .i64 R_.A, .int .i64 R_.N]) := by
 unfold F_spec_InsFrom at hh
 refine Fn.start low_spec_InsFrom [0] (E := sp 15 [(0, ii x_w)]) (by kernel_rfl) (v := .agg [ii R_.Op, ii R_.A, ii R_.N]) (Hr := []) (k := 0) (by kernel_rfl) ?_
 refine Aw.sreg [0, 2] [0] ?_
 let q1 : Root := ⟨76, [ii 0, ii 0, ii 0]⟩
 refine yt (sp 15 [(0, ii x_w), (2, pp 0)]) [(0, some q1)] 1 ?_
 refine Aw.seq ?_
 refine Aw.sreg [0, 2, 5] [0] (yj 1  (sp 15 [(0, ii x_w), (2, pp 0), (3, ii x_w)]) [(0, some q1)] 1 ?_)
 obtain ⟨v1, hv1, hh⟩ := bind_some hh
 refine ys (.call 54 [(.t 3)]) (some 4) (oc (spec_WordOk_fn hv1) ?_)
 refine yt (sp 15 [(0, ii x_w), (2, pp 0), (5, bb (!v1))]) [(0, some q1)] 1 ?_
 rcases cond_some hh with ⟨hb, hh⟩ | ⟨hb, hh⟩
 · refine cT hb ?_
   refine sy [2] [0] (sp 15 [(2, pp 0)]) [(0, some q1)] 1 ?_
   refine Aw.ret ?_
   refine then_r ?_
   rw [some_some hh]
   exact gives (r' := .agg [ii 0, ii 0, ii 0]) (by kernel_rfl) (Ent.list [] rfl rfl (Nat.zero_le _) (rens_1 (ren_agg (rens_i (rens_i (rens_i rens_n))))) hs_nil)
 refine cF hb ?_
 refine Aw.xskip (fun _ _ _ hq => then_m hq) ?_
 refine Aw.sreg [2] [0] ?_
 refine ytc [(256 : Int) ≠ 0, (64 : Int) ≠ 0, (4 : Int) ≠ 0, (64 : Int) ≠ 0] (sp 15 [(2, pp 0)]) [(0, some ⟨76, [ii (w64 (Int.tdiv x_w (256 : Int))), ii (Int.tmod (w64 (Int.tdiv x_w (64 : Int))) (4 : Int)), ii (Int.tmod x_w (64 : Int))]⟩)] 1 (.cons (by decide) (.cons (by decide) (.cons (by decide) (.cons (by decide) .nil)))) ?_
 refine Aw.ret ?_
 rw [some_some hh]
 exact gives (r' := .agg [ii (w64 (Int.tdiv x_w (256 : Int))), ii (Int.tmod (w64 (Int.tdiv x_w (64 : Int))) (4 : Int)), ii (Int.tmod x_w (64 : Int))]) (by kernel_rfl) (Ent.list [] rfl rfl (Nat.zero_le _) (rens_1 (ren_agg (rens_i (rens_i (rens_i rens_n))))) hs_nil)
def Lf87_r0 : List LOper := [oo 1 (.box 76 (.t 0)), oo 2 (.mv (.c (bb false)))]
def Lf87_r1 : List LOper := [oo 3 (.fadr 0 (.t 1)), oo 4 (.load false 1 (.t 3)), oo 5 (.call 57 [(.t 4), (.c (ii 0)), (.c (ii 15))]), om 6 5, ⟨(some 7), (.fadr 1 (.t 1)), (some (6, true))⟩, ⟨(some 8), (.load false 1 (.t 7)), (some (6, true))⟩, ⟨(some 9), (.call 57 [(.t 8), (.c (ii 0)), (.c (ii 3))]), (some (6, true))⟩, oo 10 (.pick (.t 6) (.t 9) (.c (bb false))), om 11 10, ⟨(some 12), (.fadr 2 (.t 1)), (some (11, true))⟩, ⟨(some 13), (.load false 1 (.t 12)), (some (11, true))⟩, ⟨(some 14), (.call 57 [(.t 13), (.c (ii 0)), (.c (ii 63))]), (some (11, true))⟩, oo 15 (.pick (.t 11) (.t 14) (.c (bb false))), om 2 15]
def Lf87 : LFun := ⟨16, [(.tmp 2)], (.seq (.reg false Lf87_r0) (.seq (.reg false Lf87_r1) .ret))⟩
theorem low_spec_InsOk : lowFun Go.Proofs.Try.prog 87 = some Lf87 := by kernel_rfl
noncomputable def F_spec_InsOk (x_i : DIns) : Option Bool :=
 Option.bind (F_spec_l1In x_i.Op (0 : Int) (15 : Int)) fun v1 =>
 cond v1
  (Option.bind (F_spec_l1In x_i.A (0 : Int) (3 : Int)) fun v2 =>
  cond v2
   (Option.bind (F_spec_l1In x_i.N (0 : Int) (63 : Int)) fun v3 =>
   some v3)
   (some false))
  (some false)
theorem spec_InsOk_fn {x_i : DIns} {R_ : Bool} (hh : F_spec_InsOk x_i = some R_) : Fn Try.prog 87 [.agg (C_76 x_i)] (.bool R_) := by
 unfold F_spec_InsOk at hh
 refine Fn.start low_spec_InsOk [0] (E := sp 16 [(0, .agg (C_76 x_i))]) (by kernel_rfl) (v := bb R_) (Hr := []) (k := 0) (by kernel_rfl) ?_
 refine sy [1] [0] (sp 16 [(1, pp 0)]) [(0, some ⟨76, (C_76 x_i)⟩)] 1 ?_
 refine Aw.sreg [2] [] (yu 2 [(3, pp 0), (4, ii x_i.Op)] [(0, some ⟨76, (C_76 x_i)⟩)] 1 ?_)
 obtain ⟨v1, hv1, hh⟩ := bind_some hh
 refine ys (.call 57 [(.t 4), (.c (ii 0)), (.c (ii 15))]) (some 5) (oc (spec_l1In_fn hv1) ?_)
 refine yu 1 [(5, bb v1), (6, bb v1)] [(0, some ⟨76, (C_76 x_i)⟩)] 1 ?_
 rcases cond_some hh with ⟨hb, hh⟩ | ⟨hb, hh⟩
 · refine yb 5 hb ?_
   refine yb 6 hb ?_
   refine yu 2 [(5, bb true), (6, bb true), (7, .ptr 0 [] 1), (8, ii x_i.A)] [(0, some ⟨76, (C_76 x_i)⟩)] 1 ?_
   obtain ⟨v2, hv2, hh⟩ := bind_some hh
   refine yg (.call 57 [(.t 8), (.c (ii 0)), (.c (ii 3))]) (some 9) 6 true (oc (spec_l1In_fn hv2) ?_)
   refine yu 2 [(9, bb v2), (10, bb v2), (11, bb v2)] [(0, some ⟨76, (C_76 x_i)⟩)] 1 ?_
   rcases cond_some hh with ⟨hb, hh⟩ | ⟨hb, hh⟩
   · refine yb 9 hb ?_
     refine yb 10 hb ?_
     refine yb 11 hb ?_
     refine yu 2 [(9, bb true), (10, bb true), (11, bb true), (12, .ptr 0 [] 2), (13, ii x_i.N)] [(0, some ⟨76, (C_76 x_i)⟩)] 1 ?_
     obtain ⟨v3, hv3, hh⟩ := bind_some hh
     refine yg (.call 57 [(.t 13), (.c (ii 0)), (.c (ii 63))]) (some 14) 11 true (oc (spec_l1In_fn hv3) ?_)
     refine yt (sp 16 [(2, bb v3)]) [] 1 ?_
     refine Aw.ret ?_
     rw [some_some hh]
     exact gvb
   refine yb 9 hb ?_
   refine yb 10 hb ?_
   refine yb 11 hb ?_
   refine yt (sp 16 [(2, bb false)]) [] 1 ?_
   refine Aw.ret ?_
   rw [some_some hh]
   exact gvb
 refine yb 5 hb ?_
 refine yb 6 hb ?_
 refine yt (sp 16 [(2, bb false)]) [] 1 ?_
 refine Aw.ret ?_
 rw [some_some hh]
 exact gvb
def Lf75_r0 : List LOper := [oo 1 (.box 76 (.t 0)), oo 2 (.mv (.c (bb false)))]
def Lf75_r1 : List LOper := [oo 3 (.load true 3 (.t 1)), oo 4 (.call 87 [(.t 3)]), om 5 4, ⟨(some 6), (.fadr 0 (.t 1)), (some (5, true))⟩, ⟨(some 7), (.load false 1 (.t 6)), (some (5, true))⟩, ⟨(some 8), (.bin .eql (.t 7) (.c (ii 0))), (some (5, true))⟩, ⟨(some 9), (.mv (.t 8)), (some (5, true))⟩, ⟨(some 10), (.fadr 0 (.t 1)), (some (9, false))⟩, ⟨(some 11), (.load false 1 (.t 10)), (some (9, false))⟩, ⟨(some 12), (.call 57 [(.t 11), (.c (ii 8)), (.c (ii 14))]), (some (9, false))⟩, ⟨(some 13), (.pick (.t 9) (.c (bb true)) (.t 12)), (some (5, true))⟩, oo 14 (.pick (.t 5) (.t 13) (.c (bb false))), om 2 14]
def Lf75 : LFun := ⟨15, [(.tmp 2)], (.seq (.reg false Lf75_r0) (.seq (.reg false Lf75_r1) .ret))⟩
theorem low_spec_InsKernel : lowFun Go.Proofs.Try.prog 75 = some Lf75 := by kernel_rfl
noncomputable def F_spec_InsKernel (x_i : DIns) : Option Bool :=
 Option.bind (F_spec_InsOk x_i) fun v1 =>
 cond v1
  (cond (decide (x_i.Op = (0 : Int)))
   (some true)
   (Option.bind (F_spec_l1In x_i.Op (8 : Int) (14 : Int)) fun v2 =>
   some v2))
  (some false)
theorem spec_InsKernel_fn {x_i : DIns} {R_ : Bool} (hh : F_spec_InsKernel x_i = some R_) : Fn Try.prog 75 [.agg (C_76 x_i)] (.bool R_) := by
 unfold F_spec_InsKernel at hh
 refine Fn.start low_spec_InsKernel [0] (E := sp 15 [(0, .agg (C_76 x_i))]) (by kernel_rfl) (v := bb R_) (Hr := []) (k := 0) (by kernel_rfl) ?_
 refine sy [1] [0] (sp 15 [(1, pp 0)]) [(0, some ⟨76, (C_76 x_i)⟩)] 1 ?_
 refine Aw.sreg [2] [] (yu 1 [(3, .agg (C_76 x_i))] [(0, some ⟨76, (C_76 x_i)⟩)] 1 ?_)
 obtain ⟨v1, hv1, hh⟩ := bind_some hh
 refine ys (.call 87 [(.t 3)]) (some 4) (oc (spec_InsOk_fn hv1) ?_)
 refine yu 1 [(4, bb v1), (5, bb v1)] [(0, some ⟨76, (C_76 x_i)⟩)] 1 ?_
 rcases cond_some hh with ⟨hb, hh⟩ | ⟨hb, hh⟩
 · refine yb 4 hb ?_
   refine yb 5 hb ?_
   refine yu 4 [(4, bb true), (5, bb true), (6, pp 0), (7, ii x_i.Op), (8, bb (decide (x_i.Op = (0 : Int)))), (9, bb (decide (x_i.Op = (0 : Int))))] [(0, some ⟨76, (C_76 x_i)⟩)] 1 ?_
   rcases cond_some hh with ⟨hb, hh⟩ | ⟨hb, hh⟩
   · refine yb 8 hb ?_
     refine yb 9 hb ?_
     refine yt (sp 15 [(2, bb true)]) [] 1 ?_
     refine Aw.ret ?_
     rw [some_some hh]
     exact gvb
   refine yb 8 hb ?_
   refine yb 9 hb ?_
   refine yu 2 [(8, bb false), (9, bb false), (10, pp 0), (11, ii x_i.Op)] [(0, some ⟨76, (C_76 x_i)⟩)] 1 ?_
   obtain ⟨v2, hv2, hh⟩ := bind_some hh
   refine yg (.call 57 [(.t 11), (.c (ii 8)), (.c (ii 14))]) (some 12) 9 false (oc (spec_l1In_fn hv2) ?_)
   refine yt (sp 15 [(2, bb v2)]) [] 1 ?_
   refine Aw.ret ?_
   rw [some_some hh]
   exact gvb
 refine yb 4 hb ?_
 refine yb 5 hb ?_
 refine yt (sp 15 [(2, bb false)]) [] 1 ?_
 refine Aw.ret ?_
 rw [some_some hh]
 exact gvb
end Go.Proofs.Ythbefahhpikcaaa
