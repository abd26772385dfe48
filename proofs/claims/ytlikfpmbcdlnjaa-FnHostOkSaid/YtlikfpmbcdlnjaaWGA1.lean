/- Plain functions of the program, and that it hands back what they say. Made by program. -/
import Derived.Test.YtlikfpmbcdlnjaaWT
import Derived.Test.YtlikfpmbcdlnjaaProg
import Derived.Test.YtlikfpmbcdlnjaaWD1
import Derived.Test.YtlikfpmbcdlnjaaWG1
import Derived.Test.YtlikfpmbcdlnjaaWGH1
namespace Go.Proofs.Ytlikfpmbcdlnjaa
open Go.RowKit
set_option maxRecDepth 100000
set_option linter.all false
set_option maxHeartbeats 0
def Lf51_r0 : List LOper := [oo 2 (.fresh 26 [.nil, .nil])]
def Lf51_r1 : List LOper := [om 3 0, oo 4 (.call 66 [(.t 3)]), oo 5 (.call 67 [(.t 4), (.c (ii 2))]), ⟨none, (.store 2 (.t 2) (.t 5)), none⟩]
def Lf51 : LFun := ⟨6, [(.cell 2 true 2)], (.seq (.reg false Lf51_r0) (.seq (.reg false Lf51_r1) .ret))⟩
theorem low_spec_DrawHostOk : lowFun Go.Proofs.Try.prog 51 = some Lf51 := by kernel_rfl
noncomputable def F_spec_DrawHostOk (x_code : List Int) : Option DHost :=
 Option.bind (F_spec_l20Open x_code) fun v1 =>
 Option.bind (F_spec_l20Host v1 (2 : Int)) fun v2 =>
 some v2.2
theorem spec_DrawHostOk_fn {x_code : List Int} {R_ : DHost} (hh : F_spec_DrawHostOk x_code = some R_) : Fn Try.prog 51 [bo (eI .u8) x_code] (.agg [.own 3 1 (List.length R_.Words) (fl (eI .i64) R_.Words), .own 53 17 (List.length R_.Guests) (fl O_53 R_.Guests)]) := by
 unfold F_spec_DrawHostOk at hh
 refine Fn.start low_spec_DrawHostOk [0] (E := sp 6 [(0, bo (eI .u8) x_code)]) kr (v := .agg [sw 0 R_.Words, .sref 1 [] 0 (List.length R_.Guests) 17]) (Hr := [(1, some ⟨53, (fl O_53 R_.Guests)⟩), (0, some ⟨3, (fl (eI .i64) R_.Words)⟩)]) (k := 2) kr (sy [0, 2] [0] (sp 6 [(0, bo (eI .u8) x_code), (2, pp 0)]) [(0, some ⟨26, [.nil, .nil]⟩)] 1 (Aw.sreg [2] [0, 2, 3] (yu 1 [(3, bo (eI .u8) x_code)] [(0, some ⟨26, [.nil, .nil]⟩)] 1 ?_)))
 obtain ⟨v1, hv1, hh⟩ := bind_some hh
 refine ys (.call 66 [(.t 3)]) (some 4) (op_callf (v' := pp 1) (Hp' := [(1, some ⟨135, (B_135 v1)⟩)]) (n' := 2) [] (spec_l20Open_fn hv1) (args' := [bo (eI .u8) x_code]) kr rfl rfl rfl rz rfl hs_nil (ren_p dd rfl) rfl (hq ⟨135, (B_135 v1)⟩ (rens_same (nr_B_135 _)) hs_nil) rfl ?_)
 obtain ⟨v2, hv2, hh⟩ := bind_some hh
 let q1 : Root := ⟨53, (fl O_53 v2.2.Guests)⟩
 let q2 : Root := ⟨3, (fl (eI .i64) v2.2.Words)⟩
 refine ys (.call 67 [(.t 4), (.c (ii 2))]) (some 5) (op_callf (v' := .agg [sw 2 v2.2.Words, .sref 3 [] 0 (List.length v2.2.Guests) 17]) (Hp' := [(3, some q1), (2, some q2), (1, some ⟨135, (B_135 v2.1)⟩)]) (n' := 4) [1] (spec_l20Host_fn hv2) (args' := [pp 1, ii 2]) kr rfl rfl rfl rz rfl (hq ⟨135, (B_135 v1)⟩ (rens_same (nr_B_135 _)) hs_nil) (ren_agg rz) rfl (hn nr_O_53 (hn nr_eI (hq ⟨135, (B_135 v2.1)⟩ (rens_same (nr_B_135 _)) hs_nil))) rfl ?_)
 refine yt (sp 6 [(2, pp 0)]) [(0, some ⟨26, [sw 2 v2.2.Words, .sref 3 [] 0 (List.length v2.2.Guests) 17]⟩), (2, some q2), (3, some q1)] 4 (Aw.ret ?_)
 rw [some_some hh]
 exact gives (r' := .agg [sw 2 v2.2.Words, .sref 3 [] 0 (List.length v2.2.Guests) 17]) kr (Ent.list [some 2, some 3] rfl rfl (Nat.zero_le _) (rens_1 (ren_agg rz)) (hn nr_O_53 (hn nr_eI hs_nil)))
def Lf59_r0 : List LOper := [oo 2 (.fresh 26 [.nil, .nil])]
def Lf59_r1 : List LOper := [om 3 0, oo 4 (.call 66 [(.t 3)]), oo 5 (.call 67 [(.t 4), (.c (ii 9))]), ⟨none, (.store 2 (.t 2) (.t 5)), none⟩]
def Lf59 : LFun := ⟨6, [(.cell 2 true 2)], (.seq (.reg false Lf59_r0) (.seq (.reg false Lf59_r1) .ret))⟩
theorem low_spec_DrawHostFree : lowFun Go.Proofs.Try.prog 59 = some Lf59 := by kernel_rfl
noncomputable def F_spec_DrawHostFree (x_code : List Int) : Option DHost :=
 Option.bind (F_spec_l20Open x_code) fun v1 =>
 Option.bind (F_spec_l20Host v1 (9 : Int)) fun v2 =>
 some v2.2
theorem spec_DrawHostFree_fn {x_code : List Int} {R_ : DHost} (hh : F_spec_DrawHostFree x_code = some R_) : Fn Try.prog 59 [bo (eI .u8) x_code] (.agg [.own 3 1 (List.length R_.Words) (fl (eI .i64) R_.Words), .own 53 17 (List.length R_.Guests) (fl O_53 R_.Guests)]) := by
 unfold F_spec_DrawHostFree at hh
 refine Fn.start low_spec_DrawHostFree [0] (E := sp 6 [(0, bo (eI .u8) x_code)]) kr (v := .agg [sw 0 R_.Words, .sref 1 [] 0 (List.length R_.Guests) 17]) (Hr := [(1, some ⟨53, (fl O_53 R_.Guests)⟩), (0, some ⟨3, (fl (eI .i64) R_.Words)⟩)]) (k := 2) kr (sy [0, 2] [0] (sp 6 [(0, bo (eI .u8) x_code), (2, pp 0)]) [(0, some ⟨26, [.nil, .nil]⟩)] 1 (Aw.sreg [2] [0, 2, 3] (yu 1 [(3, bo (eI .u8) x_code)] [(0, some ⟨26, [.nil, .nil]⟩)] 1 ?_)))
 obtain ⟨v1, hv1, hh⟩ := bind_some hh
 refine ys (.call 66 [(.t 3)]) (some 4) (op_callf (v' := pp 1) (Hp' := [(1, some ⟨135, (B_135 v1)⟩)]) (n' := 2) [] (spec_l20Open_fn hv1) (args' := [bo (eI .u8) x_code]) kr rfl rfl rfl rz rfl hs_nil (ren_p dd rfl) rfl (hq ⟨135, (B_135 v1)⟩ (rens_same (nr_B_135 _)) hs_nil) rfl ?_)
 obtain ⟨v2, hv2, hh⟩ := bind_some hh
 let q1 : Root := ⟨53, (fl O_53 v2.2.Guests)⟩
 let q2 : Root := ⟨3, (fl (eI .i64) v2.2.Words)⟩
 refine ys (.call 67 [(.t 4), (.c (ii 9))]) (some 5) (op_callf (v' := .agg [sw 2 v2.2.Words, .sref 3 [] 0 (List.length v2.2.Guests) 17]) (Hp' := [(3, some q1), (2, some q2), (1, some ⟨135, (B_135 v2.1)⟩)]) (n' := 4) [1] (spec_l20Host_fn hv2) (args' := [pp 1, ii 9]) kr rfl rfl rfl rz rfl (hq ⟨135, (B_135 v1)⟩ (rens_same (nr_B_135 _)) hs_nil) (ren_agg rz) rfl (hn nr_O_53 (hn nr_eI (hq ⟨135, (B_135 v2.1)⟩ (rens_same (nr_B_135 _)) hs_nil))) rfl ?_)
 refine yt (sp 6 [(2, pp 0)]) [(0, some ⟨26, [sw 2 v2.2.Words, .sref 3 [] 0 (List.length v2.2.Guests) 17]⟩), (2, some q2), (3, some q1)] 4 (Aw.ret ?_)
 rw [some_some hh]
 exact gives (r' := .agg [sw 2 v2.2.Words, .sref 3 [] 0 (List.length v2.2.Guests) 17]) kr (Ent.list [some 2, some 3] rfl rfl (Nat.zero_le _) (rens_1 (ren_agg rz)) (hn nr_O_53 (hn nr_eI hs_nil)))
end Go.Proofs.Ytlikfpmbcdlnjaa
