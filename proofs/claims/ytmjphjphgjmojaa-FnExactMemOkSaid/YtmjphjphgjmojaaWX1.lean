/- Plain functions of the program, and that it hands back what they say. Made by program. -/
import Derived.Test.YtmjphjphgjmojaaWT
import Derived.Test.YtmjphjphgjmojaaProg
import Derived.Test.YtmjphjphgjmojaaWH1
import Derived.Test.YtmjphjphgjmojaaWO1
namespace Go.Proofs.Ytmjphjphgjmojaa
open Go.RowKit
set_option maxRecDepth 100000
set_option linter.all false
set_option maxHeartbeats 0
def Lf3_r0 : List LOper := [oo 2 (.mv (.c (bb false)))]
def Lf3_r1 : List LOper := [om 6 0, oo 7 (.len (.t 6)), oo 8 (.bin .gtr (.t 7) (.c (ii 1048576)))]
def Lf3_r2 : List LOper := [oo 2 (.mv (.c (bb true)))]
def Lf3_r3 : List LOper := [om 9 0, oo 10 (.call 6 [(.t 9)]), oo 11 (.call 5 [(.t 10)]), om 3 11]
def Lf3_r4 : List LOper := [om 12 0, oo 13 (.call 6 [(.t 12)]), om 4 13]
def Lf3_r5 : List LOper := [om 14 4, oo 15 (.call 7 [(.t 14)]), om 5 15]
def Lf3_r6 : List LOper := [om 16 5, om 17 3, oo 18 (.binb true (.t 16) (.t 17))]
def Lf3_r7 : List LOper := [oo 2 (.mv (.c (bb false)))]
def Lf3_r8 : List LOper := [om 19 4, om 20 0, oo 21 (.call 6 [(.t 20)]), oo 22 (.call 8 [(.t 19), (.t 21)]), oo 23 (.un .not (.t 22))]
def Lf3_r9 : List LOper := [oo 2 (.mv (.c (bb false)))]
def Lf3_r10 : List LOper := [oo 2 (.mv (.c (bb true)))]
def Lf3 : LFun := ⟨24, [(.tmp 2)], (.seq (.reg false Lf3_r0) (.seq (.seq (.reg false Lf3_r1) (.cond (.t 8) (.seq (.reg false Lf3_r2) .ret) .skip)) (.seq (.reg false Lf3_r3) (.seq (.reg false Lf3_r4) (.seq (.reg false Lf3_r5) (.seq (.seq (.reg false Lf3_r6) (.cond (.t 18) (.seq (.reg false Lf3_r7) .ret) .skip)) (.seq (.seq (.reg false Lf3_r8) (.cond (.t 23) (.seq (.reg false Lf3_r9) .ret) .skip)) (.seq (.reg false Lf3_r10) .ret))))))))⟩
theorem low_laws_FnExactMemOk : lowFun Go.Proofs.Try.prog 3 = some Lf3 := by kernel_rfl
noncomputable def F_laws_FnExactMemOk (x_aMem : List Int) : Option Bool :=
 cond (decide ((1048576 : Int) < (((List.length x_aMem) : Nat) : Int)))
  (some true)
  (Option.bind (F_laws_toIntS x_aMem) fun v1 =>
  Option.bind (F_spec_MemOk v1) fun v2 =>
  Option.bind (F_laws_toIntS x_aMem) fun v3 =>
  Option.bind (F_impl_MemOk v3) fun v4 =>
  cond (!(v4 == v2))
   (some false)
   (Option.bind (F_laws_toIntS x_aMem) fun v5 =>
   Option.bind (F_laws_eqIntS v3 v5) fun v6 =>
   cond (!v6)
    (some false)
    (some true)))
theorem laws_FnExactMemOk_fn {x_aMem : List Int} {R_ : Bool} (hh : F_laws_FnExactMemOk x_aMem = some R_) : Fn Try.prog 3 [bo (eI .i64) x_aMem] (.bool R_) := by
 unfold F_laws_FnExactMemOk at hh
 refine Fn.start low_laws_FnExactMemOk [0] (E := sp 24 [(0, bo (eI .i64) x_aMem)]) (by kernel_rfl) (v := bb R_) (Hr := []) (k := 0) (by kernel_rfl) ?_
 refine sy [0] [] (sp 24 [(0, bo (eI .i64) x_aMem)]) [] 0 ?_
 refine Aw.seq ?_
 refine sy [0, 8] [] (sp 24 [(0, bo (eI .i64) x_aMem), (8, bb (decide ((1048576 : Int) < (((List.length x_aMem) : Nat) : Int))))]) [] 0 ?_
 rcases cond_some hh with ⟨hb, hh⟩ | ⟨hb, hh⟩
 · refine cT hb ?_
   refine sy [2] [] (sp 24 [(2, bb true)]) [] 0 ?_
   refine Aw.ret ?_
   refine then_r ?_
   rw [some_some hh]
   exact gvb
 refine cF hb ?_
 refine Aw.xskip (fun _ _ _ hq => then_m hq) ?_
 refine Aw.sreg [0, 3] [] (yj 1  (sp 24 [(0, bo (eI .i64) x_aMem), (8, bb (decide ((1048576 : Int) < (((List.length x_aMem) : Nat) : Int)))), (9, bo (eI .i64) x_aMem)]) [] 0 ?_)
 obtain ⟨v1, hv1, hh⟩ := bind_some hh
 refine ys (.call 6 [(.t 9)]) (some 10) (op_call (r := .own 3 1 (List.length v1) (fl (eI .i64) v1)) (v := sw 0 v1) (Hr := [(0, some ⟨3, (fl (eI .i64) v1)⟩)]) (n' := 1) (laws_toIntS_fn hv1) (clz_v (vs := [bo (eI .i64) x_aMem]) (by kernel_rfl) (clz_c (clo_same (clean_bor (cleans_fl cl_eI))) clz_n)) (by simp only [AV.noRef, noRefs, Bool.and_self, noRefs_fl nr_eI]) (by simp only [AV.noBor, noBors, Bool.and_self, noBors_fl nb_eI]) (by kernel_rfl) ?_)
 obtain ⟨v2, hv2, hh⟩ := bind_some hh
 refine ys (.call 5 [(.t 10)]) (some 11) (op_call (r := bb v2) (v := bb v2) (Hr := []) (n' := 1) (spec_MemOk_fn hv2) (clz_v (vs := [sw 0 v1]) (by kernel_rfl) (clz_c (clo_own (c := (eI .i64)) (xs := v1) (e := 3) (by first | rfl | omega | (simp only [List.length_set, over_len, List.length_replicate, List.length_append, List.length_cons, List.length_nil, List.length_take, List.length_drop] <;> omega)) len_eI no_eI cl_eI (by kernel_rfl)) clz_n)) rfl rfl (by kernel_rfl) ?_)
 refine yt (sp 24 [(0, bo (eI .i64) x_aMem), (3, bb v2)]) [] 1 ?_
 refine Aw.sreg [0, 3, 4] [1] (yu 1 [(12, bo (eI .i64) x_aMem)] [] 1 ?_)
 obtain ⟨v3, hv3, hh⟩ := bind_some hh
 refine ys (.call 6 [(.t 12)]) (some 13) (op_call (r := .own 3 1 (List.length v3) (fl (eI .i64) v3)) (v := sw 1 v3) (Hr := [(1, some ⟨3, (fl (eI .i64) v3)⟩)]) (n' := 2) (laws_toIntS_fn hv3) (clz_v (vs := [bo (eI .i64) x_aMem]) (by kernel_rfl) (clz_c (clo_same (clean_bor (cleans_fl cl_eI))) clz_n)) (by simp only [AV.noRef, noRefs, Bool.and_self, noRefs_fl nr_eI]) (by simp only [AV.noBor, noBors, Bool.and_self, noBors_fl nb_eI]) (by kernel_rfl) ?_)
 refine yt (sp 24 [(0, bo (eI .i64) x_aMem), (3, bb v2), (4, sw 1 v3)]) [(1, some ⟨3, (fl (eI .i64) v3)⟩)] 2 ?_
 refine Aw.sreg [0, 3, 4, 5] [1] (yu 1 [(14, sw 1 v3)] [(1, some ⟨3, (fl (eI .i64) v3)⟩)] 2 ?_)
 obtain ⟨v4, hv4, hh⟩ := bind_some hh
 refine ys (.call 7 [(.t 14)]) (some 15) (op_call (r := bb v4) (v := bb v4) (Hr := []) (n' := 2) (impl_MemOk_fn hv4) (clz_v (vs := [sw 1 v3]) (by kernel_rfl) (clz_c (clo_own (c := (eI .i64)) (xs := v3) (e := 3) (by first | rfl | omega | (simp only [List.length_set, over_len, List.length_replicate, List.length_append, List.length_cons, List.length_nil, List.length_take, List.length_drop] <;> omega)) len_eI no_eI cl_eI (by kernel_rfl)) clz_n)) rfl rfl (by kernel_rfl) ?_)
 refine yt (sp 24 [(0, bo (eI .i64) x_aMem), (3, bb v2), (4, sw 1 v3), (5, bb v4)]) [(1, some ⟨3, (fl (eI .i64) v3)⟩)] 2 ?_
 refine Aw.seq ?_
 refine sy [0, 4, 18] [1] (sp 24 [(0, bo (eI .i64) x_aMem), (4, sw 1 v3), (18, bb (!(v4 == v2)))]) [(1, some ⟨3, (fl (eI .i64) v3)⟩)] 2 ?_
 rcases cond_some hh with ⟨hb, hh⟩ | ⟨hb, hh⟩
 · refine cT hb ?_
   refine sy [2] [] (sp 24 [(2, bb false)]) [] 2 ?_
   refine Aw.ret ?_
   refine then_r ?_
   rw [some_some hh]
   exact gvb
 refine cF hb ?_
 refine Aw.xskip (fun _ _ _ hq => then_m hq) ?_
 refine Aw.seq ?_
 refine Aw.sreg [23] [] (yj 2  (sp 24 [(0, bo (eI .i64) x_aMem), (4, sw 1 v3), (18, bb (!(v4 == v2))), (19, sw 1 v3), (20, bo (eI .i64) x_aMem)]) [(1, some ⟨3, (fl (eI .i64) v3)⟩)] 2 ?_)
 obtain ⟨v5, hv5, hh⟩ := bind_some hh
 refine ys (.call 6 [(.t 20)]) (some 21) (op_call (r := .own 3 1 (List.length v5) (fl (eI .i64) v5)) (v := sw 2 v5) (Hr := [(2, some ⟨3, (fl (eI .i64) v5)⟩)]) (n' := 3) (laws_toIntS_fn hv5) (clz_v (vs := [bo (eI .i64) x_aMem]) (by kernel_rfl) (clz_c (clo_same (clean_bor (cleans_fl cl_eI))) clz_n)) (by simp only [AV.noRef, noRefs, Bool.and_self, noRefs_fl nr_eI]) (by simp only [AV.noBor, noBors, Bool.and_self, noBors_fl nb_eI]) (by kernel_rfl) ?_)
 obtain ⟨v6, hv6, hh⟩ := bind_some hh
 refine ys (.call 8 [(.t 19), (.t 21)]) (some 22) (op_call (r := bb v6) (v := bb v6) (Hr := []) (n' := 3) (laws_eqIntS_fn hv6) (clz_v (vs := [sw 1 v3, sw 2 v5]) (by kernel_rfl) (clz_c (clo_own (c := (eI .i64)) (xs := v3) (e := 3) (by first | rfl | omega | (simp only [List.length_set, over_len, List.length_replicate, List.length_append, List.length_cons, List.length_nil, List.length_take, List.length_drop] <;> omega)) len_eI no_eI cl_eI (by kernel_rfl)) (clz_c (clo_own (c := (eI .i64)) (xs := v5) (e := 3) (by first | rfl | omega | (simp only [List.length_set, over_len, List.length_replicate, List.length_append, List.length_cons, List.length_nil, List.length_take, List.length_drop] <;> omega)) len_eI no_eI cl_eI (by kernel_rfl)) clz_n))) rfl rfl (by kernel_rfl) ?_)
 refine yt (sp 24 [(23, bb (!v6))]) [] 3 ?_
 rcases cond_some hh with ⟨hb, hh⟩ | ⟨hb, hh⟩
 · refine cT hb ?_
   refine sy [2] [] (sp 24 [(2, bb false)]) [] 3 ?_
   refine Aw.ret ?_
   refine then_r ?_
   rw [some_some hh]
   exact gvb
 refine cF hb ?_
 refine Aw.xskip (fun _ _ _ hq => then_m hq) ?_
 refine sy [2] [] (sp 24 [(2, bb true)]) [] 3 ?_
 refine Aw.ret ?_
 rw [some_some hh]
 exact gvb
end Go.Proofs.Ytmjphjphgjmojaa
