/- Plain functions of the program, and that it hands back what they say. Made by program. -/
import Derived.Test.YtmjphjphgjmojaaWT
import Derived.Test.YtmjphjphgjmojaaProg
import Derived.Test.YtmjphjphgjmojaaWH1
import Derived.Test.YtmjphjphgjmojaaWV1
namespace Go.Proofs.Ytmjphjphgjmojaa
open Go.RowKit
set_option maxRecDepth 100000
set_option linter.all false
set_option maxHeartbeats 0
def Lf4_r0 : List LOper := [oo 10 (.mv (.c (bb false)))]
def Lf4_r1 : List LOper := [om 14 0, oo 15 (.len (.t 14)), oo 16 (.bin .gtr (.t 15) (.c (ii 1048576)))]
def Lf4_r2 : List LOper := [oo 10 (.mv (.c (bb true)))]
def Lf4_r3 : List LOper := [om 17 0, oo 18 (.call 6 [(.t 17)]), om 19 1, om 20 2, om 21 3, om 22 4, oo 23 (.call 9 [(.t 18), (.t 19), (.t 20), (.t 21), (.t 22)]), om 11 23]
def Lf4_r4 : List LOper := [om 24 0, oo 25 (.call 6 [(.t 24)]), om 12 25]
def Lf4_r5 : List LOper := [om 26 12, om 27 1, om 28 2, om 29 3, om 30 4, oo 31 (.call 10 [(.t 26), (.t 27), (.t 28), (.t 29), (.t 30)]), om 13 31]
def Lf4_r6 : List LOper := [om 32 13, om 33 11, oo 34 (.bin .neq (.t 32) (.t 33))]
def Lf4_r7 : List LOper := [oo 10 (.mv (.c (bb false)))]
def Lf4_r8 : List LOper := [om 35 12, om 36 0, oo 37 (.call 6 [(.t 36)]), oo 38 (.call 8 [(.t 35), (.t 37)]), oo 39 (.un .not (.t 38))]
def Lf4_r9 : List LOper := [oo 10 (.mv (.c (bb false)))]
def Lf4_r10 : List LOper := [oo 10 (.mv (.c (bb true)))]
def Lf4 : LFun := ⟨40, [(.tmp 10)], (.seq (.reg false Lf4_r0) (.seq (.seq (.reg false Lf4_r1) (.cond (.t 16) (.seq (.reg false Lf4_r2) .ret) .skip)) (.seq (.reg false Lf4_r3) (.seq (.reg false Lf4_r4) (.seq (.reg false Lf4_r5) (.seq (.seq (.reg false Lf4_r6) (.cond (.t 34) (.seq (.reg false Lf4_r7) .ret) .skip)) (.seq (.seq (.reg false Lf4_r8) (.cond (.t 39) (.seq (.reg false Lf4_r9) .ret) .skip)) (.seq (.reg false Lf4_r10) .ret))))))))⟩
theorem low_laws_FnExactWalk : lowFun Go.Proofs.Try.prog 4 = some Lf4 := by kernel_rfl
noncomputable def F_laws_FnExactWalk (x_aMem : List Int) (x_aRoot : Int) (x_aAddr : Int) (x_aUser : Bool) (x_aWrite : Bool) : Option Bool :=
 cond (decide ((1048576 : Int) < (((List.length x_aMem) : Nat) : Int)))
  (some true)
  (Option.bind (F_laws_toIntS x_aMem) fun v1 =>
  Option.bind (F_spec_Walk v1 x_aRoot x_aAddr x_aUser x_aWrite) fun v2 =>
  Option.bind (F_laws_toIntS x_aMem) fun v3 =>
  Option.bind (F_impl_Walk v3 x_aRoot x_aAddr x_aUser x_aWrite) fun v4 =>
  cond (!decide (v4 = v2))
   (some false)
   (Option.bind (F_laws_toIntS x_aMem) fun v5 =>
   Option.bind (F_laws_eqIntS v3 v5) fun v6 =>
   cond (!v6)
    (some false)
    (some true)))
theorem laws_FnExactWalk_fn {x_aMem : List Int} {x_aRoot : Int} {x_aAddr : Int} {x_aUser : Bool} {x_aWrite : Bool} {R_ : Bool} (hh : F_laws_FnExactWalk x_aMem x_aRoot x_aAddr x_aUser x_aWrite = some R_) : Fn Try.prog 4 [bo (eI .i64) x_aMem, .int .i64 x_aRoot, .int .i64 x_aAddr, .bool x_aUser, .bool x_aWrite] (.bool R_) := by
 unfold F_laws_FnExactWalk at hh
 refine Fn.start low_laws_FnExactWalk [0, 1, 2, 3, 4] (E := sp 40 [(0, bo (eI .i64) x_aMem), (1, ii x_aRoot), (2, ii x_aAddr), (3, bb x_aUser), (4, bb x_aWrite)]) (by kernel_rfl) (v := bb R_) (Hr := []) (k := 0) (by kernel_rfl) ?_
 refine sy [0, 1, 2, 3, 4] [] (sp 40 [(0, bo (eI .i64) x_aMem), (1, ii x_aRoot), (2, ii x_aAddr), (3, bb x_aUser), (4, bb x_aWrite)]) [] 0 ?_
 refine Aw.seq ?_
 refine sy [0, 1, 2, 3, 4, 16] [] (sp 40 [(0, bo (eI .i64) x_aMem), (1, ii x_aRoot), (2, ii x_aAddr), (3, bb x_aUser), (4, bb x_aWrite), (16, bb (decide ((1048576 : Int) < (((List.length x_aMem) : Nat) : Int))))]) [] 0 ?_
 rcases cond_some hh with ⟨hb, hh⟩ | ⟨hb, hh⟩
 · refine cT hb ?_
   refine sy [10] [] (sp 40 [(10, bb true)]) [] 0 ?_
   refine Aw.ret ?_
   refine then_r ?_
   rw [some_some hh]
   exact gvb
 refine cF hb ?_
 refine Aw.xskip (fun _ _ _ hq => then_m hq) ?_
 refine Aw.sreg [0, 1, 2, 3, 4, 11] [] (yj 1  (sp 40 [(0, bo (eI .i64) x_aMem), (1, ii x_aRoot), (2, ii x_aAddr), (3, bb x_aUser), (4, bb x_aWrite), (16, bb (decide ((1048576 : Int) < (((List.length x_aMem) : Nat) : Int)))), (17, bo (eI .i64) x_aMem)]) [] 0 ?_)
 obtain ⟨v1, hv1, hh⟩ := bind_some hh
 refine ys (.call 6 [(.t 17)]) (some 18) (op_call (r := .own 3 1 (List.length v1) (fl (eI .i64) v1)) (v := sw 0 v1) (Hr := [(0, some ⟨3, (fl (eI .i64) v1)⟩)]) (n' := 1) (laws_toIntS_fn hv1) (clz_v (vs := [bo (eI .i64) x_aMem]) (by kernel_rfl) (clz_c (clo_same (clean_bor (cleans_fl cl_eI))) clz_n)) (by simp only [AV.noRef, noRefs, Bool.and_self, noRefs_fl nr_eI]) (by simp only [AV.noBor, noBors, Bool.and_self, noBors_fl nb_eI]) (by kernel_rfl) ?_)
 refine yu 4 [(18, sw 0 v1), (19, ii x_aRoot), (20, ii x_aAddr), (21, bb x_aUser), (22, bb x_aWrite)] [(0, some ⟨3, (fl (eI .i64) v1)⟩)] 1 ?_
 obtain ⟨v2, hv2, hh⟩ := bind_some hh
 refine ys (.call 9 [(.t 18), (.t 19), (.t 20), (.t 21), (.t 22)]) (some 23) (op_call (r := ii v2) (v := ii v2) (Hr := []) (n' := 1) (spec_Walk_fn hv2) (clz_v (vs := [sw 0 v1, ii x_aRoot, ii x_aAddr, bb x_aUser, bb x_aWrite]) (by kernel_rfl) (clz_c (clo_own (c := (eI .i64)) (xs := v1) (e := 3) (by first | rfl | omega | (simp only [List.length_set, over_len, List.length_replicate, List.length_append, List.length_cons, List.length_nil, List.length_take, List.length_drop] <;> omega)) len_eI no_eI cl_eI (by kernel_rfl)) (cz1 (cz1 (cz1 (cz1 clz_n)))))) rfl rfl (by kernel_rfl) ?_)
 refine yt (sp 40 [(0, bo (eI .i64) x_aMem), (1, ii x_aRoot), (2, ii x_aAddr), (3, bb x_aUser), (4, bb x_aWrite), (11, ii v2)]) [] 1 ?_
 refine Aw.sreg [0, 1, 2, 3, 4, 11, 12] [1] (yu 1 [(24, bo (eI .i64) x_aMem)] [] 1 ?_)
 obtain ⟨v3, hv3, hh⟩ := bind_some hh
 refine ys (.call 6 [(.t 24)]) (some 25) (op_call (r := .own 3 1 (List.length v3) (fl (eI .i64) v3)) (v := sw 1 v3) (Hr := [(1, some ⟨3, (fl (eI .i64) v3)⟩)]) (n' := 2) (laws_toIntS_fn hv3) (clz_v (vs := [bo (eI .i64) x_aMem]) (by kernel_rfl) (clz_c (clo_same (clean_bor (cleans_fl cl_eI))) clz_n)) (by simp only [AV.noRef, noRefs, Bool.and_self, noRefs_fl nr_eI]) (by simp only [AV.noBor, noBors, Bool.and_self, noBors_fl nb_eI]) (by kernel_rfl) ?_)
 refine yt (sp 40 [(0, bo (eI .i64) x_aMem), (1, ii x_aRoot), (2, ii x_aAddr), (3, bb x_aUser), (4, bb x_aWrite), (11, ii v2), (12, sw 1 v3)]) [(1, some ⟨3, (fl (eI .i64) v3)⟩)] 2 ?_
 refine Aw.sreg [0, 11, 12, 13] [1] (yu 5 [(26, sw 1 v3), (27, ii x_aRoot), (28, ii x_aAddr), (29, bb x_aUser), (30, bb x_aWrite)] [(1, some ⟨3, (fl (eI .i64) v3)⟩)] 2 ?_)
 obtain ⟨v4, hv4, hh⟩ := bind_some hh
 refine ys (.call 10 [(.t 26), (.t 27), (.t 28), (.t 29), (.t 30)]) (some 31) (op_call (r := ii v4) (v := ii v4) (Hr := []) (n' := 2) (impl_Walk_fn hv4) (clz_v (vs := [sw 1 v3, ii x_aRoot, ii x_aAddr, bb x_aUser, bb x_aWrite]) (by kernel_rfl) (clz_c (clo_own (c := (eI .i64)) (xs := v3) (e := 3) (by first | rfl | omega | (simp only [List.length_set, over_len, List.length_replicate, List.length_append, List.length_cons, List.length_nil, List.length_take, List.length_drop] <;> omega)) len_eI no_eI cl_eI (by kernel_rfl)) (cz1 (cz1 (cz1 (cz1 clz_n)))))) rfl rfl (by kernel_rfl) ?_)
 refine yt (sp 40 [(0, bo (eI .i64) x_aMem), (11, ii v2), (12, sw 1 v3), (13, ii v4)]) [(1, some ⟨3, (fl (eI .i64) v3)⟩)] 2 ?_
 refine Aw.seq ?_
 refine sy [0, 12, 34] [1] (sp 40 [(0, bo (eI .i64) x_aMem), (12, sw 1 v3), (34, bb (!decide (v4 = v2)))]) [(1, some ⟨3, (fl (eI .i64) v3)⟩)] 2 ?_
 rcases cond_some hh with ⟨hb, hh⟩ | ⟨hb, hh⟩
 · refine cT hb ?_
   refine sy [10] [] (sp 40 [(10, bb false)]) [] 2 ?_
   refine Aw.ret ?_
   refine then_r ?_
   rw [some_some hh]
   exact gvb
 refine cF hb ?_
 refine Aw.xskip (fun _ _ _ hq => then_m hq) ?_
 refine Aw.seq ?_
 refine Aw.sreg [39] [] (yj 2  (sp 40 [(0, bo (eI .i64) x_aMem), (12, sw 1 v3), (34, bb (!decide (v4 = v2))), (35, sw 1 v3), (36, bo (eI .i64) x_aMem)]) [(1, some ⟨3, (fl (eI .i64) v3)⟩)] 2 ?_)
 obtain ⟨v5, hv5, hh⟩ := bind_some hh
 refine ys (.call 6 [(.t 36)]) (some 37) (op_call (r := .own 3 1 (List.length v5) (fl (eI .i64) v5)) (v := sw 2 v5) (Hr := [(2, some ⟨3, (fl (eI .i64) v5)⟩)]) (n' := 3) (laws_toIntS_fn hv5) (clz_v (vs := [bo (eI .i64) x_aMem]) (by kernel_rfl) (clz_c (clo_same (clean_bor (cleans_fl cl_eI))) clz_n)) (by simp only [AV.noRef, noRefs, Bool.and_self, noRefs_fl nr_eI]) (by simp only [AV.noBor, noBors, Bool.and_self, noBors_fl nb_eI]) (by kernel_rfl) ?_)
 obtain ⟨v6, hv6, hh⟩ := bind_some hh
 refine ys (.call 8 [(.t 35), (.t 37)]) (some 38) (op_call (r := bb v6) (v := bb v6) (Hr := []) (n' := 3) (laws_eqIntS_fn hv6) (clz_v (vs := [sw 1 v3, sw 2 v5]) (by kernel_rfl) (clz_c (clo_own (c := (eI .i64)) (xs := v3) (e := 3) (by first | rfl | omega | (simp only [List.length_set, over_len, List.length_replicate, List.length_append, List.length_cons, List.length_nil, List.length_take, List.length_drop] <;> omega)) len_eI no_eI cl_eI (by kernel_rfl)) (clz_c (clo_own (c := (eI .i64)) (xs := v5) (e := 3) (by first | rfl | omega | (simp only [List.length_set, over_len, List.length_replicate, List.length_append, List.length_cons, List.length_nil, List.length_take, List.length_drop] <;> omega)) len_eI no_eI cl_eI (by kernel_rfl)) clz_n))) rfl rfl (by kernel_rfl) ?_)
 refine yt (sp 40 [(39, bb (!v6))]) [] 3 ?_
 rcases cond_some hh with ⟨hb, hh⟩ | ⟨hb, hh⟩
 · refine cT hb ?_
   refine sy [10] [] (sp 40 [(10, bb false)]) [] 3 ?_
   refine Aw.ret ?_
   refine then_r ?_
   rw [some_some hh]
   exact gvb
 refine cF hb ?_
 refine Aw.xskip (fun _ _ _ hq => then_m hq) ?_
 refine sy [10] [] (sp 40 [(10, bb true)]) [] 3 ?_
 refine Aw.ret ?_
 rw [some_some hh]
 exact gvb
end Go.Proofs.Ytmjphjphgjmojaa
