/- Plain functions of the program, and that it hands back what they say. Made by program. -/
import Derived.Test.YtbogmfjpabfhpaaWT
import Derived.Test.YtbogmfjpabfhpaaProg
import Derived.Test.YtbogmfjpabfhpaaWH1
namespace Go.Proofs.Ytbogmfjpabfhpaa
open Go.RowKit
set_option maxRecDepth 100000
set_option linter.all false
set_option maxHeartbeats 0
def Lf46_r0 : List LOper := [oo 2 (.box 38 (.t 0)), oo 3 (.box 38 (.t 1)), oo 4 (.mv (.c (bb false)))]
def Lf46_r1 : List LOper := [oo 5 (.fadr 0 (.t 2)), oo 6 (.load true 13 (.t 5)), oo 7 (.fadr 0 (.t 3)), oo 8 (.load true 13 (.t 7)), oo 9 (.call 91 [(.t 6), (.t 8)]), oo 10 (.un .not (.t 9))]
def Lf46_r2 : List LOper := [oo 4 (.mv (.c (bb false)))]
def Lf46_r3 : List LOper := [oo 11 (.fadr 13 (.t 2)), oo 12 (.load false 1 (.t 11)), oo 13 (.fadr 13 (.t 3)), oo 14 (.load false 1 (.t 13)), oo 15 (.call 49 [(.t 12), (.t 14)]), oo 16 (.un .not (.t 15))]
def Lf46_r4 : List LOper := [oo 4 (.mv (.c (bb false)))]
def Lf46_r5 : List LOper := [oo 17 (.fadr 14 (.t 2)), oo 18 (.load false 1 (.t 17)), oo 19 (.fadr 14 (.t 3)), oo 20 (.load false 1 (.t 19)), oo 21 (.call 49 [(.t 18), (.t 20)]), oo 22 (.un .not (.t 21))]
def Lf46_r6 : List LOper := [oo 4 (.mv (.c (bb false)))]
def Lf46_r7 : List LOper := [oo 23 (.fadr 15 (.t 2)), oo 24 (.load false 1 (.t 23)), oo 25 (.fadr 15 (.t 3)), oo 26 (.load false 1 (.t 25)), oo 27 (.call 49 [(.t 24), (.t 26)]), oo 28 (.un .not (.t 27))]
def Lf46_r8 : List LOper := [oo 4 (.mv (.c (bb false)))]
def Lf46_r9 : List LOper := [oo 4 (.mv (.c (bb true)))]
def Lf46 : LFun := ⟨29, [(.tmp 4)], (.seq (.reg false Lf46_r0) (.seq (.seq (.reg false Lf46_r1) (.cond (.t 10) (.seq (.reg false Lf46_r2) .ret) .skip)) (.seq (.seq (.reg false Lf46_r3) (.cond (.t 16) (.seq (.reg false Lf46_r4) .ret) .skip)) (.seq (.seq (.reg false Lf46_r5) (.cond (.t 22) (.seq (.reg false Lf46_r6) .ret) .skip)) (.seq (.seq (.reg false Lf46_r7) (.cond (.t 28) (.seq (.reg false Lf46_r8) .ret) .skip)) (.seq (.reg false Lf46_r9) .ret))))))⟩
theorem low_laws_eqBare : lowFun Go.Proofs.Try.prog 46 = some Lf46 := by kernel_rfl
noncomputable def F_laws_eqBare (x_a : DBare) (x_b : DBare) : Option Bool :=
 Option.bind (F_laws_eqCore x_a.C x_b.C) fun v1 =>
 cond (!v1)
  (some false)
  (Option.bind (F_laws_eqIntS x_a.Mem x_b.Mem) fun v2 =>
  cond (!v2)
   (some false)
   (Option.bind (F_laws_eqIntS x_a.In x_b.In) fun v3 =>
   cond (!v3)
    (some false)
    (Option.bind (F_laws_eqIntS x_a.Out x_b.Out) fun v4 =>
    cond (!v4)
     (some false)
     (some true))))
theorem laws_eqBare_fn {x_a : DBare} {x_b : DBare} {R_ : Bool} (hh : F_laws_eqBare x_a x_b = some R_) : Fn Try.prog 46 [.agg (B_38 x_a), .agg (B_38 x_b)] (.bool R_) := by
 unfold F_laws_eqBare at hh
 refine Fn.start low_laws_eqBare [0, 1] (E := sp 29 [(0, .agg (B_38 x_a)), (1, .agg (B_38 x_b))]) (by kernel_rfl) (v := bb R_) (Hr := []) (k := 0) (by kernel_rfl) ?_
 refine sy [2, 3] [0, 1] (sp 29 [(2, pp 0), (3, pp 1)]) [(0, some ⟨38, (B_38 x_a)⟩), (1, some ⟨38, (B_38 x_b)⟩)] 2 ?_
 refine Aw.seq ?_
 refine Aw.sreg [2, 3, 10] [0, 1] (yj 4  (sp 29 [(2, pp 0), (3, pp 1), (5, pp 0), (6, .agg (B_36 x_a.C)), (7, pp 1), (8, .agg (B_36 x_b.C))]) [(0, some ⟨38, (B_38 x_a)⟩), (1, some ⟨38, (B_38 x_b)⟩)] 2 ?_)
 obtain ⟨v1, hv1, hh⟩ := bind_some hh
 refine ys (.call 91 [(.t 6), (.t 8)]) (some 9) (op_call (r := bb v1) (v := bb v1) (Hr := []) (n' := 2) (laws_eqCore_fn hv1) (clz_v (vs := [.agg (B_36 x_a.C), .agg (B_36 x_b.C)]) (by kernel_rfl) (clz_c (clo_same (clean_agg (cl_B_36 _))) (clz_c (clo_same (clean_agg (cl_B_36 _))) clz_n))) rfl rfl (by kernel_rfl) ?_)
 refine yt (sp 29 [(2, pp 0), (3, pp 1), (10, bb (!v1))]) [(0, some ⟨38, (B_38 x_a)⟩), (1, some ⟨38, (B_38 x_b)⟩)] 2 ?_
 rcases cond_some hh with ⟨hb, hh⟩ | ⟨hb, hh⟩
 · refine cT hb ?_
   refine sy [4] [] (sp 29 [(4, bb false)]) [] 2 ?_
   refine Aw.ret ?_
   refine then_r ?_
   rw [some_some hh]
   exact gvb
 refine cF hb ?_
 refine Aw.xskip (fun _ _ _ hq => then_m hq) ?_
 refine Aw.seq ?_
 refine Aw.sreg [2, 3, 16] [0, 1] (yj 4  (sp 29 [(2, pp 0), (3, pp 1), (10, bb (!v1)), (11, .ptr 0 [] 13), (12, bo (eI .i64) x_a.Mem), (13, .ptr 1 [] 13), (14, bo (eI .i64) x_b.Mem)]) [(0, some ⟨38, (B_38 x_a)⟩), (1, some ⟨38, (B_38 x_b)⟩)] 2 ?_)
 obtain ⟨v2, hv2, hh⟩ := bind_some hh
 refine ys (.call 49 [(.t 12), (.t 14)]) (some 15) (oc (laws_eqIntS_fn hv2) ?_)
 refine yt (sp 29 [(2, pp 0), (3, pp 1), (16, bb (!v2))]) [(0, some ⟨38, (B_38 x_a)⟩), (1, some ⟨38, (B_38 x_b)⟩)] 2 ?_
 rcases cond_some hh with ⟨hb, hh⟩ | ⟨hb, hh⟩
 · refine cT hb ?_
   refine sy [4] [] (sp 29 [(4, bb false)]) [] 2 ?_
   refine Aw.ret ?_
   refine then_r ?_
   rw [some_some hh]
   exact gvb
 refine cF hb ?_
 refine Aw.xskip (fun _ _ _ hq => then_m hq) ?_
 refine Aw.seq ?_
 refine Aw.sreg [2, 3, 22] [0, 1] (yj 4  (sp 29 [(2, pp 0), (3, pp 1), (16, bb (!v2)), (17, .ptr 0 [] 14), (18, bo (eI .i64) x_a.In), (19, .ptr 1 [] 14), (20, bo (eI .i64) x_b.In)]) [(0, some ⟨38, (B_38 x_a)⟩), (1, some ⟨38, (B_38 x_b)⟩)] 2 ?_)
 obtain ⟨v3, hv3, hh⟩ := bind_some hh
 refine ys (.call 49 [(.t 18), (.t 20)]) (some 21) (oc (laws_eqIntS_fn hv3) ?_)
 refine yt (sp 29 [(2, pp 0), (3, pp 1), (22, bb (!v3))]) [(0, some ⟨38, (B_38 x_a)⟩), (1, some ⟨38, (B_38 x_b)⟩)] 2 ?_
 rcases cond_some hh with ⟨hb, hh⟩ | ⟨hb, hh⟩
 · refine cT hb ?_
   refine sy [4] [] (sp 29 [(4, bb false)]) [] 2 ?_
   refine Aw.ret ?_
   refine then_r ?_
   rw [some_some hh]
   exact gvb
 refine cF hb ?_
 refine Aw.xskip (fun _ _ _ hq => then_m hq) ?_
 refine Aw.seq ?_
 refine Aw.sreg [28] [] (yj 4  (sp 29 [(2, pp 0), (3, pp 1), (22, bb (!v3)), (23, .ptr 0 [] 15), (24, bo (eI .i64) x_a.Out), (25, .ptr 1 [] 15), (26, bo (eI .i64) x_b.Out)]) [(0, some ⟨38, (B_38 x_a)⟩), (1, some ⟨38, (B_38 x_b)⟩)] 2 ?_)
 obtain ⟨v4, hv4, hh⟩ := bind_some hh
 refine ys (.call 49 [(.t 24), (.t 26)]) (some 27) (oc (laws_eqIntS_fn hv4) ?_)
 refine yt (sp 29 [(28, bb (!v4))]) [] 2 ?_
 rcases cond_some hh with ⟨hb, hh⟩ | ⟨hb, hh⟩
 · refine cT hb ?_
   refine sy [4] [] (sp 29 [(4, bb false)]) [] 2 ?_
   refine Aw.ret ?_
   refine then_r ?_
   rw [some_some hh]
   exact gvb
 refine cF hb ?_
 refine Aw.xskip (fun _ _ _ hq => then_m hq) ?_
 refine sy [4] [] (sp 29 [(4, bb true)]) [] 2 ?_
 refine Aw.ret ?_
 rw [some_some hh]
 exact gvb
def Lf92_r0 : List LOper := [oo 2 (.box 36 (.t 0)), oo 4 (.mv (.c (ii 0)))]
def Lf92_r1 : List LOper := [oo 5 (.fadr 0 (.t 2)), oo 6 (.load false 1 (.t 5)), om 7 1, oo 8 (.call 50 [(.t 6), (.t 7)]), om 1 8]
def Lf92_r2 : List LOper := [om 9 1, om 4 9]
def Lf92 : LFun := ⟨10, [(.tmp 4)], (.seq (.reg false Lf92_r0) (.seq (.reg false Lf92_r1) (.seq (.reg false Lf92_r2) .ret)))⟩
theorem low_laws_markCore : lowFun Go.Proofs.Try.prog 92 = some Lf92 := by kernel_rfl
noncomputable def F_laws_markCore (x_a : DCore) (x_k : Int) : Option ((List Int) × Int) :=
 Option.bind (F_laws_markIntS x_a.Regs x_k) fun v1 =>
 grd (List.length v1.1 = (List.length x_a.Regs)) (some (v1.1, v1.2))
theorem laws_markCore_fn {x_a : DCore} {x_k : Int} {R_ : (List Int) × Int} (hh : F_laws_markCore x_a x_k = some R_) : Inl Try.prog 92 [.agg (.sref 0 [] 0 (List.length x_a.Regs) 1 :: ru36 x_a []), .int .i64 x_k] [(0, some ⟨3, (fl (eI .i64) x_a.Regs)⟩)] 1 (.int .i64 R_.2) [(0, some ⟨3, (fl (eI .i64) R_.1)⟩)] 1 := by
 unfold F_laws_markCore at hh
 let q1 : Root := ⟨3, (fl (eI .i64) x_a.Regs)⟩
 refine Inl.start low_laws_markCore [0, 1] [0] (E := sp 10 [(0, .agg (sw 0 x_a.Regs :: ru36 x_a [])), (1, ii x_k)]) (H1 := [(0, some q1)]) (by kernel_rfl) (by kernel_rfl) ?_
 refine Aw.sreg [1, 2] [0, 1] ?_
 let q2 : Root := ⟨36, (sw 0 x_a.Regs :: ru36 x_a [])⟩
 refine yt (sp 10 [(1, ii x_k), (2, pp 1)]) [(0, some q1), (1, some q2)] 2 ?_
 refine Aw.sreg [1] [0] (yu 3 [(5, pp 1), (6, sw 0 x_a.Regs), (7, ii x_k)] [(0, some q1), (1, some q2)] 2 ?_)
 obtain ⟨v1, hv1, hh⟩ := bind_some hh
 obtain ⟨hg2, hh⟩ := grd_some hh
 refine ys (.call 50 [(.t 6), (.t 7)]) (some 8) (op_callf (v' := ii v1.2) (Hp' := [(0, some ⟨3, (fl (eI .i64) v1.1)⟩)]) (n' := 2) [0] (laws_markIntS_fn hv1) (args' := [sw 0 x_a.Regs, ii x_k]) (by kernel_rfl) rfl rfl rfl (rens_c ren_sx (rens_i rens_n)) rfl (hq q1 (rens_same (noRefs_fl nr_eI)) hs_nil) ren_i rfl (hq ⟨3, (fl (eI .i64) v1.1)⟩ (rens_same (noRefs_fl nr_eI)) hs_nil) rfl ?_)
 refine yt (sp 10 [(1, ii v1.2)]) [(0, some ⟨3, (fl (eI .i64) v1.1)⟩)] 2 ?_
 refine sy [4] [0] (sp 10 [(4, ii v1.2)]) [(0, some ⟨3, (fl (eI .i64) v1.1)⟩)] 2 ?_
 refine Aw.ret ?_
 rw [some_some hh]
 exact gives (r' := ii v1.2) (by kernel_rfl) (Ent.list2 [some 0] rfl rfl (by decide) (rens_1 ren_i) (hq ⟨3, (fl (eI .i64) v1.1)⟩ (rens_same (noRefs_fl nr_eI)) hs_nil))
def Lf47_r0 : List LOper := [oo 2 (.box 38 (.t 0)), oo 4 (.mv (.c (ii 0)))]
def Lf47_r1 : List LOper := [oo 5 (.fadr 0 (.t 2)), oo 6 (.load true 13 (.t 5)), om 7 1, oo 8 (.call 92 [(.t 6), (.t 7)]), om 1 8]
def Lf47_r2 : List LOper := [oo 9 (.fadr 13 (.t 2)), oo 10 (.load false 1 (.t 9)), om 11 1, oo 12 (.call 50 [(.t 10), (.t 11)]), om 1 12]
def Lf47_r3 : List LOper := [oo 13 (.fadr 14 (.t 2)), oo 14 (.load false 1 (.t 13)), om 15 1, oo 16 (.call 50 [(.t 14), (.t 15)]), om 1 16]
def Lf47_r4 : List LOper := [oo 17 (.fadr 15 (.t 2)), oo 18 (.load false 1 (.t 17)), om 19 1, oo 20 (.call 50 [(.t 18), (.t 19)]), om 1 20]
def Lf47_r5 : List LOper := [om 21 1, om 4 21]
def Lf47 : LFun := ⟨22, [(.tmp 4)], (.seq (.reg false Lf47_r0) (.seq (.reg false Lf47_r1) (.seq (.reg false Lf47_r2) (.seq (.reg false Lf47_r3) (.seq (.reg false Lf47_r4) (.seq (.reg false Lf47_r5) .ret))))))⟩
theorem low_laws_markBare : lowFun Go.Proofs.Try.prog 47 = some Lf47 := by kernel_rfl
noncomputable def F_laws_markBare (x_a : DBare) (x_k : Int) : Option ((List Int) × (List Int) × (List Int) × (List Int) × Int) :=
 Option.bind (F_laws_markCore x_a.C x_k) fun v1 =>
 grd (List.length v1.1 = (List.length x_a.C.Regs)) (Option.bind (F_laws_markIntS x_a.Mem v1.2) fun v2 =>
  grd (List.length v2.1 = (List.length x_a.Mem)) (Option.bind (F_laws_markIntS x_a.In v2.2) fun v3 =>
   grd (List.length v3.1 = (List.length x_a.In)) (Option.bind (F_laws_markIntS x_a.Out v3.2) fun v4 =>
    grd (List.length v4.1 = (List.length x_a.Out)) (some (v1.1, v2.1, v3.1, v4.1, v4.2)))))
theorem laws_markBare_fn {x_a : DBare} {x_k : Int} {R_ : (List Int) × (List Int) × (List Int) × (List Int) × Int} (hh : F_laws_markBare x_a x_k = some R_) : Inl Try.prog 47 [.agg (.sref 0 [] 0 (List.length x_a.C.Regs) 1 :: ru36 x_a.C [.sref 1 [] 0 (List.length x_a.Mem) 1, .sref 2 [] 0 (List.length x_a.In) 1, .sref 3 [] 0 (List.length x_a.Out) 1]), .int .i64 x_k] [(3, some ⟨3, (fl (eI .i64) x_a.Out)⟩), (2, some ⟨3, (fl (eI .i64) x_a.In)⟩), (1, some ⟨3, (fl (eI .i64) x_a.Mem)⟩), (0, some ⟨3, (fl (eI .i64) x_a.C.Regs)⟩)] 4 (.int .i64 R_.2.2.2.2) [(0, some ⟨3, (fl (eI .i64) R_.1)⟩), (1, some ⟨3, (fl (eI .i64) R_.2.1)⟩), (2, some ⟨3, (fl (eI .i64) R_.2.2.1)⟩), (3, some ⟨3, (fl (eI .i64) R_.2.2.2.1)⟩)] 4 := by
 unfold F_laws_markBare at hh
 let q1 : Root := ⟨3, (fl (eI .i64) x_a.C.Regs)⟩
 let q2 : Root := ⟨3, (fl (eI .i64) x_a.Mem)⟩
 let q3 : Root := ⟨3, (fl (eI .i64) x_a.In)⟩
 let q4 : Root := ⟨3, (fl (eI .i64) x_a.Out)⟩
 refine Inl.start low_laws_markBare [0, 1] [0, 1, 2, 3] (E := sp 22 [(0, .agg (sw 0 x_a.C.Regs :: ru36 x_a.C [sw 1 x_a.Mem, sw 2 x_a.In, sw 3 x_a.Out])), (1, ii x_k)]) (H1 := [(0, some q1), (1, some q2), (2, some q3), (3, some q4)]) (by kernel_rfl) (by kernel_rfl) ?_
 refine Aw.sreg [1, 2] [0, 1, 2, 3, 4] ?_
 let q5 : Root := ⟨38, (sw 0 x_a.C.Regs :: ru36 x_a.C [sw 1 x_a.Mem, sw 2 x_a.In, sw 3 x_a.Out])⟩
 refine yt (sp 22 [(1, ii x_k), (2, pp 4)]) [(0, some q1), (1, some q2), (2, some q3), (3, some q4), (4, some q5)] 5 ?_
 refine Aw.sreg [1, 2] [0, 1, 2, 3, 4] (yu 3 [(5, pp 4), (6, .agg (sw 0 x_a.C.Regs :: ru36 x_a.C [])), (7, ii x_k)] [(0, some q1), (1, some q2), (2, some q3), (3, some q4), (4, some q5)] 5 ?_)
 obtain ⟨v1, hv1, hh⟩ := bind_some hh
 obtain ⟨hg2, hh⟩ := grd_some hh
 refine ys (.call 92 [(.t 6), (.t 7)]) (some 8) (op_callf (v' := ii v1.2) (Hp' := [(0, some ⟨3, (fl (eI .i64) v1.1)⟩)]) (n' := 5) [0] (laws_markCore_fn hv1) (args' := [.agg (sw 0 x_a.C.Regs :: ru36 x_a.C []), ii x_k]) (by kernel_rfl) rfl rfl rfl (rens_c (ren_agg (rens_c ren_sx (rens_i (rens_i (rens_i (rens_i (rens_b (rens_i (rens_i (rens_i (rens_b (rens_b (rens_b (rens_b rens_n)))))))))))))) (rens_i rens_n)) rfl (hq q1 (rens_same (noRefs_fl nr_eI)) hs_nil) ren_i rfl (hq ⟨3, (fl (eI .i64) v1.1)⟩ (rens_same (noRefs_fl nr_eI)) hs_nil) rfl ?_)
 refine yt (sp 22 [(1, ii v1.2), (2, pp 4)]) [(0, some ⟨3, (fl (eI .i64) v1.1)⟩), (1, some q2), (2, some q3), (3, some q4), (4, some q5)] 5 ?_
 refine Aw.sreg [1, 2] [0, 1, 2, 3, 4] (yu 3 [(9, .ptr 4 [] 13), (10, sw 1 x_a.Mem), (11, ii v1.2)] [(0, some ⟨3, (fl (eI .i64) v1.1)⟩), (1, some q2), (2, some q3), (3, some q4), (4, some q5)] 5 ?_)
 obtain ⟨v2, hv2, hh⟩ := bind_some hh
 obtain ⟨hg4, hh⟩ := grd_some hh
 refine ys (.call 50 [(.t 10), (.t 11)]) (some 12) (op_callf (v' := ii v2.2) (Hp' := [(1, some ⟨3, (fl (eI .i64) v2.1)⟩)]) (n' := 5) [1] (laws_markIntS_fn hv2) (args' := [sw 1 x_a.Mem, ii v1.2]) (by kernel_rfl) rfl rfl rfl (rens_c ren_sx (rens_i rens_n)) rfl (hq q2 (rens_same (noRefs_fl nr_eI)) hs_nil) ren_i rfl (hq ⟨3, (fl (eI .i64) v2.1)⟩ (rens_same (noRefs_fl nr_eI)) hs_nil) rfl ?_)
 refine yt (sp 22 [(1, ii v2.2), (2, pp 4)]) [(0, some ⟨3, (fl (eI .i64) v1.1)⟩), (1, some ⟨3, (fl (eI .i64) v2.1)⟩), (2, some q3), (3, some q4), (4, some q5)] 5 ?_
 refine Aw.sreg [1, 2] [0, 1, 2, 3, 4] (yu 3 [(13, .ptr 4 [] 14), (14, sw 2 x_a.In), (15, ii v2.2)] [(0, some ⟨3, (fl (eI .i64) v1.1)⟩), (1, some ⟨3, (fl (eI .i64) v2.1)⟩), (2, some q3), (3, some q4), (4, some q5)] 5 ?_)
 obtain ⟨v3, hv3, hh⟩ := bind_some hh
 obtain ⟨hg6, hh⟩ := grd_some hh
 refine ys (.call 50 [(.t 14), (.t 15)]) (some 16) (op_callf (v' := ii v3.2) (Hp' := [(2, some ⟨3, (fl (eI .i64) v3.1)⟩)]) (n' := 5) [2] (laws_markIntS_fn hv3) (args' := [sw 2 x_a.In, ii v2.2]) (by kernel_rfl) rfl rfl rfl (rens_c ren_sx (rens_i rens_n)) rfl (hq q3 (rens_same (noRefs_fl nr_eI)) hs_nil) ren_i rfl (hq ⟨3, (fl (eI .i64) v3.1)⟩ (rens_same (noRefs_fl nr_eI)) hs_nil) rfl ?_)
 refine yt (sp 22 [(1, ii v3.2), (2, pp 4)]) [(0, some ⟨3, (fl (eI .i64) v1.1)⟩), (1, some ⟨3, (fl (eI .i64) v2.1)⟩), (2, some ⟨3, (fl (eI .i64) v3.1)⟩), (3, some q4), (4, some q5)] 5 ?_
 refine Aw.sreg [1] [0, 1, 2, 3] (yu 3 [(17, .ptr 4 [] 15), (18, sw 3 x_a.Out), (19, ii v3.2)] [(0, some ⟨3, (fl (eI .i64) v1.1)⟩), (1, some ⟨3, (fl (eI .i64) v2.1)⟩), (2, some ⟨3, (fl (eI .i64) v3.1)⟩), (3, some q4), (4, some q5)] 5 ?_)
 obtain ⟨v4, hv4, hh⟩ := bind_some hh
 obtain ⟨hg8, hh⟩ := grd_some hh
 refine ys (.call 50 [(.t 18), (.t 19)]) (some 20) (op_callf (v' := ii v4.2) (Hp' := [(3, some ⟨3, (fl (eI .i64) v4.1)⟩)]) (n' := 5) [3] (laws_markIntS_fn hv4) (args' := [sw 3 x_a.Out, ii v3.2]) (by kernel_rfl) rfl rfl rfl (rens_c ren_sx (rens_i rens_n)) rfl (hq q4 (rens_same (noRefs_fl nr_eI)) hs_nil) ren_i rfl (hq ⟨3, (fl (eI .i64) v4.1)⟩ (rens_same (noRefs_fl nr_eI)) hs_nil) rfl ?_)
 refine yt (sp 22 [(1, ii v4.2)]) [(0, some ⟨3, (fl (eI .i64) v1.1)⟩), (1, some ⟨3, (fl (eI .i64) v2.1)⟩), (2, some ⟨3, (fl (eI .i64) v3.1)⟩), (3, some ⟨3, (fl (eI .i64) v4.1)⟩)] 5 ?_
 refine sy [4] [0, 1, 2, 3] (sp 22 [(4, ii v4.2)]) [(0, some ⟨3, (fl (eI .i64) v1.1)⟩), (1, some ⟨3, (fl (eI .i64) v2.1)⟩), (2, some ⟨3, (fl (eI .i64) v3.1)⟩), (3, some ⟨3, (fl (eI .i64) v4.1)⟩)] 5 ?_
 refine Aw.ret ?_
 rw [some_some hh]
 exact gives (r' := ii v4.2) (by kernel_rfl) (Ent.list2 [some 0, some 1, some 2, some 3] rfl rfl (by decide) (rens_1 ren_i) (hq ⟨3, (fl (eI .i64) v1.1)⟩ (rens_same (noRefs_fl nr_eI)) (hq ⟨3, (fl (eI .i64) v2.1)⟩ (rens_same (noRefs_fl nr_eI)) (hq ⟨3, (fl (eI .i64) v3.1)⟩ (rens_same (noRefs_fl nr_eI)) (hq ⟨3, (fl (eI .i64) v4.1)⟩ (rens_same (noRefs_fl nr_eI)) hs_nil)))))
def Lf93_r0 : List LOper := [oo 2 (.box 36 (.t 0)), oo 4 (.mv (.c (ii 0)))]
def Lf93_r1 : List LOper := [oo 5 (.fadr 0 (.t 2)), oo 6 (.load false 1 (.t 5)), om 7 1, oo 8 (.call 51 [(.t 6), (.t 7)]), om 1 8]
def Lf93_r2 : List LOper := [om 9 1, oo 10 (.bin .lss (.t 9) (.c (ii 0)))]
def Lf93_r3 : List LOper := [oo 4 (.mv (.c (ii (-1))))]
def Lf93_r4 : List LOper := [om 11 1, om 4 11]
def Lf93 : LFun := ⟨12, [(.tmp 4)], (.seq (.reg false Lf93_r0) (.seq (.reg false Lf93_r1) (.seq (.seq (.reg false Lf93_r2) (.cond (.t 10) (.seq (.reg false Lf93_r3) .ret) .skip)) (.seq (.reg false Lf93_r4) .ret))))⟩
theorem low_laws_heldCore : lowFun Go.Proofs.Try.prog 93 = some Lf93 := by kernel_rfl
noncomputable def F_laws_heldCore (x_a : DCore) (x_k : Int) : Option Int :=
 Option.bind (F_laws_heldIntS x_a.Regs x_k) fun v1 =>
 cond (decide (v1 < (0 : Int)))
  (some (-1 : Int))
  (some v1)
theorem laws_heldCore_fn {x_a : DCore} {x_k : Int} {R_ : Int} (hh : F_laws_heldCore x_a x_k = some R_) : Fn Try.prog 93 [.agg (B_36 x_a), .int .i64 x_k] (.int .i64 R_) := by
 unfold F_laws_heldCore at hh
 refine Fn.start low_laws_heldCore [0, 1] (E := sp 12 [(0, .agg (B_36 x_a)), (1, ii x_k)]) (by kernel_rfl) (v := ii R_) (Hr := []) (k := 0) (by kernel_rfl) ?_
 refine sy [1, 2] [0] (sp 12 [(1, ii x_k), (2, pp 0)]) [(0, some ⟨36, (B_36 x_a)⟩)] 1 ?_
 refine Aw.sreg [1] [] (yu 3 [(5, pp 0), (6, bo (eI .i64) x_a.Regs), (7, ii x_k)] [(0, some ⟨36, (B_36 x_a)⟩)] 1 ?_)
 obtain ⟨v1, hv1, hh⟩ := bind_some hh
 refine ys (.call 51 [(.t 6), (.t 7)]) (some 8) (oc (laws_heldIntS_fn hv1) ?_)
 refine yt (sp 12 [(1, ii v1)]) [] 1 ?_
 refine Aw.seq ?_
 refine sy [1, 10] [] (sp 12 [(1, ii v1), (10, bb (decide (v1 < (0 : Int))))]) [] 1 ?_
 rcases cond_some hh with ⟨hb, hh⟩ | ⟨hb, hh⟩
 · refine cT hb ?_
   refine sy [4] [] (sp 12 [(4, ii (-1))]) [] 1 ?_
   refine Aw.ret ?_
   refine then_r ?_
   rw [some_some hh]
   exact gvi
 refine cF hb ?_
 refine Aw.xskip (fun _ _ _ hq => then_m hq) ?_
 refine sy [4] [] (sp 12 [(4, ii v1)]) [] 1 ?_
 refine Aw.ret ?_
 rw [some_some hh]
 exact gvi
def Lf48_r0 : List LOper := [oo 2 (.box 38 (.t 0)), oo 4 (.mv (.c (ii 0)))]
def Lf48_r1 : List LOper := [oo 5 (.fadr 0 (.t 2)), oo 6 (.load true 13 (.t 5)), om 7 1, oo 8 (.call 93 [(.t 6), (.t 7)]), om 1 8]
def Lf48_r2 : List LOper := [om 9 1, oo 10 (.bin .lss (.t 9) (.c (ii 0)))]
def Lf48_r3 : List LOper := [oo 4 (.mv (.c (ii (-1))))]
def Lf48_r4 : List LOper := [oo 11 (.fadr 13 (.t 2)), oo 12 (.load false 1 (.t 11)), om 13 1, oo 14 (.call 51 [(.t 12), (.t 13)]), om 1 14]
def Lf48_r5 : List LOper := [om 15 1, oo 16 (.bin .lss (.t 15) (.c (ii 0)))]
def Lf48_r6 : List LOper := [oo 4 (.mv (.c (ii (-1))))]
def Lf48_r7 : List LOper := [oo 17 (.fadr 14 (.t 2)), oo 18 (.load false 1 (.t 17)), om 19 1, oo 20 (.call 51 [(.t 18), (.t 19)]), om 1 20]
def Lf48_r8 : List LOper := [om 21 1, oo 22 (.bin .lss (.t 21) (.c (ii 0)))]
def Lf48_r9 : List LOper := [oo 4 (.mv (.c (ii (-1))))]
def Lf48_r10 : List LOper := [oo 23 (.fadr 15 (.t 2)), oo 24 (.load false 1 (.t 23)), om 25 1, oo 26 (.call 51 [(.t 24), (.t 25)]), om 1 26]
def Lf48_r11 : List LOper := [om 27 1, oo 28 (.bin .lss (.t 27) (.c (ii 0)))]
def Lf48_r12 : List LOper := [oo 4 (.mv (.c (ii (-1))))]
def Lf48_r13 : List LOper := [om 29 1, om 4 29]
def Lf48 : LFun := ⟨30, [(.tmp 4)], (.seq (.reg false Lf48_r0) (.seq (.reg false Lf48_r1) (.seq (.seq (.reg false Lf48_r2) (.cond (.t 10) (.seq (.reg false Lf48_r3) .ret) .skip)) (.seq (.reg false Lf48_r4) (.seq (.seq (.reg false Lf48_r5) (.cond (.t 16) (.seq (.reg false Lf48_r6) .ret) .skip)) (.seq (.reg false Lf48_r7) (.seq (.seq (.reg false Lf48_r8) (.cond (.t 22) (.seq (.reg false Lf48_r9) .ret) .skip)) (.seq (.reg false Lf48_r10) (.seq (.seq (.reg false Lf48_r11) (.cond (.t 28) (.seq (.reg false Lf48_r12) .ret) .skip)) (.seq (.reg false Lf48_r13) .ret))))))))))⟩
theorem low_laws_heldBare : lowFun Go.Proofs.Try.prog 48 = some Lf48 := by kernel_rfl
noncomputable def F_laws_heldBare (x_a : DBare) (x_k : Int) : Option Int :=
 Option.bind (F_laws_heldCore x_a.C x_k) fun v1 =>
 cond (decide (v1 < (0 : Int)))
  (some (-1 : Int))
  (Option.bind (F_laws_heldIntS x_a.Mem v1) fun v2 =>
  cond (decide (v2 < (0 : Int)))
   (some (-1 : Int))
   (Option.bind (F_laws_heldIntS x_a.In v2) fun v3 =>
   cond (decide (v3 < (0 : Int)))
    (some (-1 : Int))
    (Option.bind (F_laws_heldIntS x_a.Out v3) fun v4 =>
    cond (decide (v4 < (0 : Int)))
     (some (-1 : Int))
     (some v4))))
theorem laws_heldBare_fn {x_a : DBare} {x_k : Int} {R_ : Int} (hh : F_laws_heldBare x_a x_k = some R_) : Fn Try.prog 48 [.agg (bo (eI .i64) x_a.C.Regs :: ru36 x_a.C [bo (eI .i64) x_a.Mem, bo (eI .i64) x_a.In, bo (eI .i64) x_a.Out]), .int .i64 x_k] (.int .i64 R_) := by
 unfold F_laws_heldBare at hh
 refine Fn.start low_laws_heldBare [0, 1] (E := sp 30 [(0, .agg (B_38 x_a)), (1, ii x_k)]) (by kernel_rfl) (v := ii R_) (Hr := []) (k := 0) (by kernel_rfl) ?_
 refine Aw.sreg [1, 2] [0] ?_
 let q1 : Root := ⟨38, (bo (eI .i64) x_a.C.Regs :: ru36 x_a.C [bo (eI .i64) x_a.Mem, bo (eI .i64) x_a.In, bo (eI .i64) x_a.Out])⟩
 refine yt (sp 30 [(1, ii x_k), (2, pp 0)]) [(0, some q1)] 1 ?_
 refine Aw.sreg [1, 2] [0] (yu 3 [(5, pp 0), (6, .agg (B_36 x_a.C)), (7, ii x_k)] [(0, some q1)] 1 ?_)
 obtain ⟨v1, hv1, hh⟩ := bind_some hh
 refine ys (.call 93 [(.t 6), (.t 7)]) (some 8) (op_call (r := ii v1) (v := ii v1) (Hr := []) (n' := 1) (laws_heldCore_fn hv1) (clz_v (vs := [.agg (B_36 x_a.C), ii x_k]) (by kernel_rfl) (clz_c (clo_same (clean_agg (cl_B_36 _))) (cz1 clz_n))) rfl rfl (by kernel_rfl) ?_)
 refine yt (sp 30 [(1, ii v1), (2, pp 0)]) [(0, some q1)] 1 ?_
 refine Aw.seq ?_
 refine sy [1, 2, 10] [0] (sp 30 [(1, ii v1), (2, pp 0), (10, bb (decide (v1 < (0 : Int))))]) [(0, some q1)] 1 ?_
 rcases cond_some hh with ⟨hb, hh⟩ | ⟨hb, hh⟩
 · refine cT hb ?_
   refine sy [4] [] (sp 30 [(4, ii (-1))]) [] 1 ?_
   refine Aw.ret ?_
   refine then_r ?_
   rw [some_some hh]
   exact gvi
 refine cF hb ?_
 refine Aw.xskip (fun _ _ _ hq => then_m hq) ?_
 refine Aw.sreg [1, 2] [0] (yj 3  (sp 30 [(1, ii v1), (2, pp 0), (10, bb (decide (v1 < (0 : Int)))), (11, .ptr 0 [] 13), (12, bo (eI .i64) x_a.Mem), (13, ii v1)]) [(0, some q1)] 1 ?_)
 obtain ⟨v2, hv2, hh⟩ := bind_some hh
 refine ys (.call 51 [(.t 12), (.t 13)]) (some 14) (oc (laws_heldIntS_fn hv2) ?_)
 refine yt (sp 30 [(1, ii v2), (2, pp 0)]) [(0, some q1)] 1 ?_
 refine Aw.seq ?_
 refine sy [1, 2, 16] [0] (sp 30 [(1, ii v2), (2, pp 0), (16, bb (decide (v2 < (0 : Int))))]) [(0, some q1)] 1 ?_
 rcases cond_some hh with ⟨hb, hh⟩ | ⟨hb, hh⟩
 · refine cT hb ?_
   refine sy [4] [] (sp 30 [(4, ii (-1))]) [] 1 ?_
   refine Aw.ret ?_
   refine then_r ?_
   rw [some_some hh]
   exact gvi
 refine cF hb ?_
 refine Aw.xskip (fun _ _ _ hq => then_m hq) ?_
 refine Aw.sreg [1, 2] [0] (yj 3  (sp 30 [(1, ii v2), (2, pp 0), (16, bb (decide (v2 < (0 : Int)))), (17, .ptr 0 [] 14), (18, bo (eI .i64) x_a.In), (19, ii v2)]) [(0, some q1)] 1 ?_)
 obtain ⟨v3, hv3, hh⟩ := bind_some hh
 refine ys (.call 51 [(.t 18), (.t 19)]) (some 20) (oc (laws_heldIntS_fn hv3) ?_)
 refine yt (sp 30 [(1, ii v3), (2, pp 0)]) [(0, some q1)] 1 ?_
 refine Aw.seq ?_
 refine sy [1, 2, 22] [0] (sp 30 [(1, ii v3), (2, pp 0), (22, bb (decide (v3 < (0 : Int))))]) [(0, some q1)] 1 ?_
 rcases cond_some hh with ⟨hb, hh⟩ | ⟨hb, hh⟩
 · refine cT hb ?_
   refine sy [4] [] (sp 30 [(4, ii (-1))]) [] 1 ?_
   refine Aw.ret ?_
   refine then_r ?_
   rw [some_some hh]
   exact gvi
 refine cF hb ?_
 refine Aw.xskip (fun _ _ _ hq => then_m hq) ?_
 refine Aw.sreg [1] [] (yj 3  (sp 30 [(1, ii v3), (2, pp 0), (22, bb (decide (v3 < (0 : Int)))), (23, .ptr 0 [] 15), (24, bo (eI .i64) x_a.Out), (25, ii v3)]) [(0, some q1)] 1 ?_)
 obtain ⟨v4, hv4, hh⟩ := bind_some hh
 refine ys (.call 51 [(.t 24), (.t 25)]) (some 26) (oc (laws_heldIntS_fn hv4) ?_)
 refine yt (sp 30 [(1, ii v4)]) [] 1 ?_
 refine Aw.seq ?_
 refine sy [1, 28] [] (sp 30 [(1, ii v4), (28, bb (decide (v4 < (0 : Int))))]) [] 1 ?_
 rcases cond_some hh with ⟨hb, hh⟩ | ⟨hb, hh⟩
 · refine cT hb ?_
   refine sy [4] [] (sp 30 [(4, ii (-1))]) [] 1 ?_
   refine Aw.ret ?_
   refine then_r ?_
   rw [some_some hh]
   exact gvi
 refine cF hb ?_
 refine Aw.xskip (fun _ _ _ hq => then_m hq) ?_
 refine sy [4] [] (sp 30 [(4, ii v4)]) [] 1 ?_
 refine Aw.ret ?_
 rw [some_some hh]
 exact gvi
end Go.Proofs.Ytbogmfjpabfhpaa
