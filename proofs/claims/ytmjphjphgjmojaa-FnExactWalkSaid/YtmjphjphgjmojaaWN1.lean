/- Plain functions of the program, and that it hands back what they say. Made by program. -/
import Derived.Test.YtmjphjphgjmojaaWT
import Derived.Test.YtmjphjphgjmojaaProg
namespace Go.Proofs.Ytmjphjphgjmojaa
open Go.RowKit
set_option maxRecDepth 100000
set_option linter.all false
set_option maxHeartbeats 0
def Lf19_r0 : List LOper := [oo 2 (.mv (.c (bb false)))]
def Lf19_r1 : List LOper := [om 3 0, oo 4 (.bin .leq (.c (ii 0)) (.t 3)), om 5 4, ⟨(some 6), (.mv (.t 0)), (some (5, true))⟩, ⟨(some 7), (.bin .leq (.t 6) (.c (ii 4095))), (some (5, true))⟩, oo 8 (.pick (.t 5) (.t 7) (.c (bb false))), om 2 8]
def Lf19 : LFun := ⟨9, [(.tmp 2)], (.seq (.reg false Lf19_r0) (.seq (.reg false Lf19_r1) .ret))⟩
theorem low_impl_WordOk : lowFun Go.Proofs.Try.prog 19 = some Lf19 := by kernel_rfl
noncomputable def F_impl_WordOk (x_n : Int) : Option Bool :=
 cond (decide ((0 : Int) ≤ x_n))
  (some (decide (x_n ≤ (4095 : Int))))
  (some false)
theorem impl_WordOk_fn {x_n : Int} {R_ : Bool} (hh : F_impl_WordOk x_n = some R_) : Fn Try.prog 19 [.int .i64 x_n] (.bool R_) := by
 unfold F_impl_WordOk at hh
 refine Fn.start low_impl_WordOk [0] (E := sp 9 [(0, ii x_n)]) (by kernel_rfl) (v := bb R_) (Hr := []) (k := 0) (by kernel_rfl) ?_
 refine sy [0] [] (sp 9 [(0, ii x_n)]) [] 0 ?_
 refine Aw.sreg [2] [] (yu 3 [(3, ii x_n), (4, bb (decide ((0 : Int) ≤ x_n))), (5, bb (decide ((0 : Int) ≤ x_n)))] [] 0 ?_)
 rcases cond_some hh with ⟨hb, hh⟩ | ⟨hb, hh⟩
 · refine yb 4 hb ?_
   refine yb 5 hb ?_
   refine yt (sp 9 [(2, bb (decide (x_n ≤ (4095 : Int))))]) [] 0 ?_
   refine Aw.ret ?_
   rw [some_some hh]
   exact gvb
 refine yb 4 hb ?_
 refine yb 5 hb ?_
 refine yt (sp 9 [(2, bb false)]) [] 0 ?_
 refine Aw.ret ?_
 rw [some_some hh]
 exact gvb
def Lf17_r0 : List LOper := [oo 2 (.fresh 31 [(bb false), (bb false), (bb false), (ii 0)])]
def Lf17_r1 : List LOper := [om 3 0, oo 4 (.call 19 [(.t 3)]), oo 5 (.un .not (.t 4))]
def Lf17_r2 : List LOper := [oo 6 (.bld [(bb false), (bb false), (bb false), (ii 0)] []), ⟨none, (.store 4 (.t 2) (.t 6)), none⟩]
def Lf17_r3 : List LOper := [om 7 0, oo 8 (.bin .quo (.t 7) (.c (ii 1))), oo 9 (.bin .rem (.t 8) (.c (ii 2))), oo 10 (.bin .eql (.t 9) (.c (ii 1))), om 11 0, oo 12 (.bin .quo (.t 11) (.c (ii 2))), oo 13 (.bin .rem (.t 12) (.c (ii 2))), oo 14 (.bin .eql (.t 13) (.c (ii 1))), om 15 0, oo 16 (.bin .quo (.t 15) (.c (ii 4))), oo 17 (.bin .rem (.t 16) (.c (ii 2))), oo 18 (.bin .eql (.t 17) (.c (ii 1))), om 19 0, oo 20 (.bin .quo (.t 19) (.c (ii 8))), oo 21 (.bin .rem (.t 20) (.c (ii 8))), oo 22 (.bld [(bb false), (bb false), (bb false), (ii 0)] [(0, (1, (.t 10))), (1, (1, (.t 14))), (2, (1, (.t 18))), (3, (1, (.t 21)))]), ⟨none, (.store 4 (.t 2) (.t 22)), none⟩]
def Lf17 : LFun := ⟨23, [(.cell 2 true 4)], (.seq (.reg false Lf17_r0) (.seq (.seq (.reg false Lf17_r1) (.cond (.t 5) (.seq (.reg false Lf17_r2) .ret) .skip)) (.seq (.reg false Lf17_r3) .ret)))⟩
theorem low_impl_EntryFrom : lowFun Go.Proofs.Try.prog 17 = some Lf17 := by kernel_rfl
noncomputable def F_impl_EntryFrom (x_w : Int) : Option DEntry :=
 Option.bind (F_impl_WordOk x_w) fun v1 =>
 cond (!v1)
  (some (DEntry.mk false false false (0 : Int)))
  (some (DEntry.mk (decide ((Int.tmod (w64 (Int.tdiv x_w (1 : Int))) (2 : Int)) = (1 : Int))) (decide ((Int.tmod (w64 (Int.tdiv x_w (2 : Int))) (2 : Int)) = (1 : Int))) (decide ((Int.tmod (w64 (Int.tdiv x_w (4 : Int))) (2 : Int)) = (1 : Int))) (Int.tmod (w64 (Int.tdiv x_w (8 : Int))) (8 : Int))))
theorem impl_EntryFrom_fn {x_w : Int} {R_ : DEntry} (hh : F_impl_EntryFrom x_w = some R_) : Fn Try.prog 17 [.int .i64 x_w] (.agg (ru31 R_ [])) := by
 unfold F_impl_EntryFrom at hh
 refine Fn.start low_impl_EntryFrom [0] (E := sp 23 [(0, ii x_w)]) (by kernel_rfl) (v := .agg (ru31 R_ [])) (Hr := []) (k := 0) (by kernel_rfl) ?_
 refine sy [0, 2] [0] (sp 23 [(0, ii x_w), (2, pp 0)]) [(0, some ⟨31, (zru31 [])⟩)] 1 ?_
 refine Aw.seq ?_
 refine Aw.sreg [0, 2, 5] [0] (yj 1  (sp 23 [(0, ii x_w), (2, pp 0), (3, ii x_w)]) [(0, some ⟨31, (zru31 [])⟩)] 1 ?_)
 obtain ⟨v1, hv1, hh⟩ := bind_some hh
 refine ys (.call 19 [(.t 3)]) (some 4) (oc (impl_WordOk_fn hv1) ?_)
 refine yt (sp 23 [(0, ii x_w), (2, pp 0), (5, bb (!v1))]) [(0, some ⟨31, (zru31 [])⟩)] 1 ?_
 rcases cond_some hh with ⟨hb, hh⟩ | ⟨hb, hh⟩
 · refine cT hb ?_
   refine sy [2] [0] (sp 23 [(2, pp 0)]) [(0, some ⟨31, (zru31 [])⟩)] 1 ?_
   refine Aw.ret ?_
   refine then_r ?_
   rw [some_some hh]
   exact gives (r' := .agg (zru31 [])) (by kernel_rfl) (Ent.list [] rfl rfl (Nat.zero_le _) (rens_1 (ren_agg (rens_b (rens_b (rens_b (rens_i rens_n)))))) hs_nil)
 refine cF hb ?_
 refine Aw.xskip (fun _ _ _ hq => then_m hq) ?_
 refine Aw.sreg [2] [0] ?_
 refine ytc [(1 : Int) ≠ 0, (2 : Int) ≠ 0, (2 : Int) ≠ 0, (2 : Int) ≠ 0, (4 : Int) ≠ 0, (2 : Int) ≠ 0, (8 : Int) ≠ 0, (8 : Int) ≠ 0] (sp 23 [(2, pp 0)]) [(0, some ⟨31, [bb (decide ((Int.tmod (w64 (Int.tdiv x_w (1 : Int))) (2 : Int)) = (1 : Int))), bb (decide ((Int.tmod (w64 (Int.tdiv x_w (2 : Int))) (2 : Int)) = (1 : Int))), bb (decide ((Int.tmod (w64 (Int.tdiv x_w (4 : Int))) (2 : Int)) = (1 : Int))), ii (Int.tmod (w64 (Int.tdiv x_w (8 : Int))) (8 : Int))]⟩)] 1 (.cons (by decide) (.cons (by decide) (.cons (by decide) (.cons (by decide) (.cons (by decide) (.cons (by decide) (.cons (by decide) (.cons (by decide) .nil)))))))) ?_
 refine Aw.ret ?_
 rw [some_some hh]
 exact gives (r' := .agg [bb (decide ((Int.tmod (w64 (Int.tdiv x_w (1 : Int))) (2 : Int)) = (1 : Int))), bb (decide ((Int.tmod (w64 (Int.tdiv x_w (2 : Int))) (2 : Int)) = (1 : Int))), bb (decide ((Int.tmod (w64 (Int.tdiv x_w (4 : Int))) (2 : Int)) = (1 : Int))), ii (Int.tmod (w64 (Int.tdiv x_w (8 : Int))) (8 : Int))]) (by kernel_rfl) (Ent.list [] rfl rfl (Nat.zero_le _) (rens_1 (ren_agg (rens_b (rens_b (rens_b (rens_i rens_n)))))) hs_nil)
def Lf13_r0 : List LOper := [oo 6 (.mv (.c (bb false)))]
def Lf13_r1 : List LOper := [om 7 0, om 8 1, oo 9 (.bin .geq (.t 7) (.t 8)), om 10 9, ⟨(some 11), (.mv (.t 0)), (some (10, true))⟩, ⟨(some 12), (.mv (.t 2)), (some (10, true))⟩, ⟨(some 13), (.bin .leq (.t 11) (.t 12)), (some (10, true))⟩, oo 14 (.pick (.t 10) (.t 13) (.c (bb false))), om 6 14]
def Lf13 : LFun := ⟨15, [(.tmp 6)], (.seq (.reg false Lf13_r0) (.seq (.reg false Lf13_r1) .ret))⟩
theorem low_spec_l1In : lowFun Go.Proofs.Try.prog 13 = some Lf13 := by kernel_rfl
noncomputable def F_spec_l1In (x_n : Int) (x_low : Int) (x_high : Int) : Option Bool :=
 cond (decide (x_low ≤ x_n))
  (some (decide (x_n ≤ x_high)))
  (some false)
theorem spec_l1In_fn {x_n : Int} {x_low : Int} {x_high : Int} {R_ : Bool} (hh : F_spec_l1In x_n x_low x_high = some R_) : Fn Try.prog 13 [.int .i64 x_n, .int .i64 x_low, .int .i64 x_high] (.bool R_) := by
 unfold F_spec_l1In at hh
 refine Fn.start low_spec_l1In [0, 1, 2] (E := sp 15 [(0, ii x_n), (1, ii x_low), (2, ii x_high)]) (by kernel_rfl) (v := bb R_) (Hr := []) (k := 0) (by kernel_rfl) ?_
 refine sy [0, 1, 2] [] (sp 15 [(0, ii x_n), (1, ii x_low), (2, ii x_high)]) [] 0 ?_
 refine Aw.sreg [6] [] (yu 4 [(7, ii x_n), (8, ii x_low), (9, bb (decide (x_low ≤ x_n))), (10, bb (decide (x_low ≤ x_n)))] [] 0 ?_)
 rcases cond_some hh with ⟨hb, hh⟩ | ⟨hb, hh⟩
 · refine yb 9 hb ?_
   refine yb 10 hb ?_
   refine yt (sp 15 [(6, bb (decide (x_n ≤ x_high)))]) [] 0 ?_
   refine Aw.ret ?_
   rw [some_some hh]
   exact gvb
 refine yb 9 hb ?_
 refine yb 10 hb ?_
 refine yt (sp 15 [(6, bb false)]) [] 0 ?_
 refine Aw.ret ?_
 rw [some_some hh]
 exact gvb
def Lf11_r0 : List LOper := [oo 2 (.mv (.c (bb false)))]
def Lf11_r1 : List LOper := [om 3 0, oo 4 (.call 13 [(.t 3), (.c (ii 0)), (.c (ii 4095))]), om 2 4]
def Lf11 : LFun := ⟨5, [(.tmp 2)], (.seq (.reg false Lf11_r0) (.seq (.reg false Lf11_r1) .ret))⟩
theorem low_spec_WordOk : lowFun Go.Proofs.Try.prog 11 = some Lf11 := by kernel_rfl
noncomputable def F_spec_WordOk (x_n : Int) : Option Bool :=
 Option.bind (F_spec_l1In x_n (0 : Int) (4095 : Int)) fun v1 =>
 some v1
theorem spec_WordOk_fn {x_n : Int} {R_ : Bool} (hh : F_spec_WordOk x_n = some R_) : Fn Try.prog 11 [.int .i64 x_n] (.bool R_) := by
 unfold F_spec_WordOk at hh
 refine Fn.start low_spec_WordOk [0] (E := sp 5 [(0, ii x_n)]) (by kernel_rfl) (v := bb R_) (Hr := []) (k := 0) (by kernel_rfl) ?_
 refine sy [0] [] (sp 5 [(0, ii x_n)]) [] 0 ?_
 refine Aw.sreg [2] [] (yu 1 [(3, ii x_n)] [] 0 ?_)
 obtain ⟨v1, hv1, hh⟩ := bind_some hh
 refine ys (.call 13 [(.t 3), (.c (ii 0)), (.c (ii 4095))]) (some 4) (oc (spec_l1In_fn hv1) ?_)
 refine yt (sp 5 [(2, bb v1)]) [] 0 ?_
 refine Aw.ret ?_
 rw [some_some hh]
 exact gvb
def Lf14_r0 : List LOper := [oo 2 (.fresh 31 [(bb false), (bb false), (bb false), (ii 0)])]
def Lf14_r1 : List LOper := [om 3 0, oo 4 (.call 11 [(.t 3)]), oo 5 (.un .not (.t 4))]
def Lf14_r2 : List LOper := [oo 6 (.bld [(bb false), (bb false), (bb false), (ii 0)] []), ⟨none, (.store 4 (.t 2) (.t 6)), none⟩]
def Lf14_r3 : List LOper := [om 7 0, oo 8 (.bin .rem (.t 7) (.c (ii 2))), oo 9 (.bin .eql (.t 8) (.c (ii 1))), om 10 0, oo 11 (.bin .quo (.t 10) (.c (ii 2))), oo 12 (.bin .rem (.t 11) (.c (ii 2))), oo 13 (.bin .eql (.t 12) (.c (ii 1))), om 14 0, oo 15 (.bin .quo (.t 14) (.c (ii 4))), oo 16 (.bin .rem (.t 15) (.c (ii 2))), oo 17 (.bin .eql (.t 16) (.c (ii 1))), om 18 0, oo 19 (.bin .quo (.t 18) (.c (ii 8))), oo 20 (.bin .rem (.t 19) (.c (ii 8))), oo 21 (.bld [(bb false), (bb false), (bb false), (ii 0)] [(0, (1, (.t 9))), (1, (1, (.t 13))), (2, (1, (.t 17))), (3, (1, (.t 20)))]), ⟨none, (.store 4 (.t 2) (.t 21)), none⟩]
def Lf14 : LFun := ⟨22, [(.cell 2 true 4)], (.seq (.reg false Lf14_r0) (.seq (.seq (.reg false Lf14_r1) (.cond (.t 5) (.seq (.reg false Lf14_r2) .ret) .skip)) (.seq (.reg false Lf14_r3) .ret)))⟩
theorem low_spec_EntryFrom : lowFun Go.Proofs.Try.prog 14 = some Lf14 := by kernel_rfl
noncomputable def F_spec_EntryFrom (x_w : Int) : Option DEntry :=
 Option.bind (F_spec_WordOk x_w) fun v1 =>
 cond (!v1)
  (some (DEntry.mk false false false (0 : Int)))
  (some (DEntry.mk (decide ((Int.tmod x_w (2 : Int)) = (1 : Int))) (decide ((Int.tmod (w64 (Int.tdiv x_w (2 : Int))) (2 : Int)) = (1 : Int))) (decide ((Int.tmod (w64 (Int.tdiv x_w (4 : Int))) (2 : Int)) = (1 : Int))) (Int.tmod (w64 (Int.tdiv x_w (8 : Int))) (8 : Int))))
theorem spec_EntryFrom_fn {x_w : Int} {R_ : DEntry} (hh : F_spec_EntryFrom x_w = some R_) : Fn Try.prog 14 [.int .i64 x_w] (.agg (ru31 R_ [])) := by
 unfold F_spec_EntryFrom at hh
 refine Fn.start low_spec_EntryFrom [0] (E := sp 22 [(0, ii x_w)]) (by kernel_rfl) (v := .agg (ru31 R_ [])) (Hr := []) (k := 0) (by kernel_rfl) ?_
 refine sy [0, 2] [0] (sp 22 [(0, ii x_w), (2, pp 0)]) [(0, some ⟨31, (zru31 [])⟩)] 1 ?_
 refine Aw.seq ?_
 refine Aw.sreg [0, 2, 5] [0] (yj 1  (sp 22 [(0, ii x_w), (2, pp 0), (3, ii x_w)]) [(0, some ⟨31, (zru31 [])⟩)] 1 ?_)
 obtain ⟨v1, hv1, hh⟩ := bind_some hh
 refine ys (.call 11 [(.t 3)]) (some 4) (oc (spec_WordOk_fn hv1) ?_)
 refine yt (sp 22 [(0, ii x_w), (2, pp 0), (5, bb (!v1))]) [(0, some ⟨31, (zru31 [])⟩)] 1 ?_
 rcases cond_some hh with ⟨hb, hh⟩ | ⟨hb, hh⟩
 · refine cT hb ?_
   refine sy [2] [0] (sp 22 [(2, pp 0)]) [(0, some ⟨31, (zru31 [])⟩)] 1 ?_
   refine Aw.ret ?_
   refine then_r ?_
   rw [some_some hh]
   exact gives (r' := .agg (zru31 [])) (by kernel_rfl) (Ent.list [] rfl rfl (Nat.zero_le _) (rens_1 (ren_agg (rens_b (rens_b (rens_b (rens_i rens_n)))))) hs_nil)
 refine cF hb ?_
 refine Aw.xskip (fun _ _ _ hq => then_m hq) ?_
 refine Aw.sreg [2] [0] ?_
 refine ytc [(2 : Int) ≠ 0, (2 : Int) ≠ 0, (2 : Int) ≠ 0, (4 : Int) ≠ 0, (2 : Int) ≠ 0, (8 : Int) ≠ 0, (8 : Int) ≠ 0] (sp 22 [(2, pp 0)]) [(0, some ⟨31, [bb (decide ((Int.tmod x_w (2 : Int)) = (1 : Int))), bb (decide ((Int.tmod (w64 (Int.tdiv x_w (2 : Int))) (2 : Int)) = (1 : Int))), bb (decide ((Int.tmod (w64 (Int.tdiv x_w (4 : Int))) (2 : Int)) = (1 : Int))), ii (Int.tmod (w64 (Int.tdiv x_w (8 : Int))) (8 : Int))]⟩)] 1 (.cons (by decide) (.cons (by decide) (.cons (by decide) (.cons (by decide) (.cons (by decide) (.cons (by decide) (.cons (by decide) .nil))))))) ?_
 refine Aw.ret ?_
 rw [some_some hh]
 exact gives (r' := .agg [bb (decide ((Int.tmod x_w (2 : Int)) = (1 : Int))), bb (decide ((Int.tmod (w64 (Int.tdiv x_w (2 : Int))) (2 : Int)) = (1 : Int))), bb (decide ((Int.tmod (w64 (Int.tdiv x_w (4 : Int))) (2 : Int)) = (1 : Int))), ii (Int.tmod (w64 (Int.tdiv x_w (8 : Int))) (8 : Int))]) (by kernel_rfl) (Ent.list [] rfl rfl (Nat.zero_le _) (rens_1 (ren_agg (rens_b (rens_b (rens_b (rens_i rens_n)))))) hs_nil)
end Go.Proofs.Ytmjphjphgjmojaa
