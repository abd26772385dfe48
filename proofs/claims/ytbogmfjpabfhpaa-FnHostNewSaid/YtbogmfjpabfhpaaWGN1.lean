/- Plain functions of the program, and that it hands back what they say. Made by program. -/
import Derived.Test.YtbogmfjpabfhpaaWT
import Derived.Test.YtbogmfjpabfhpaaProg
import Derived.Test.YtbogmfjpabfhpaaWD1
namespace Go.Proofs.Ytbogmfjpabfhpaa
open Go.RowKit
set_option maxRecDepth 100000
set_option linter.all false
set_option maxHeartbeats 0
def Lf21_r0 : List LOper := [oo 2 (.mv (.c (ii 0)))]
def Lf21_r1 : List LOper := [om 3 0, oo 4 (.call 55 [(.t 3)]), oo 5 (.call 67 [(.t 4), (.c (ii 3))]), om 2 5]
def Lf21 : LFun := ⟨6, [(.tmp 2)], (.seq (.reg false Lf21_r0) (.seq (.reg false Lf21_r1) .ret))⟩
theorem low_spec_DrawHostNew : lowFun Go.Proofs.Try.prog 21 = some Lf21 := by kernel_rfl
noncomputable def F_spec_DrawHostNew (x_code : List Int) : Option Int :=
 Option.bind (F_spec_l20Open x_code) fun v1 =>
 Option.bind (F___spec_l20Rd__pick v1 (3 : Int)) fun v2 =>
 some v2.2
theorem spec_DrawHostNew_fn {x_code : List Int} {R_ : Int} (hh : F_spec_DrawHostNew x_code = some R_) : Fn Try.prog 21 [bo (eI .u8) x_code] (.int .i64 R_) := by
 unfold F_spec_DrawHostNew at hh
 refine Fn.start low_spec_DrawHostNew [0] (E := sp 6 [(0, bo (eI .u8) x_code)]) (by kernel_rfl) (v := ii R_) (Hr := []) (k := 0) (by kernel_rfl) ?_
 refine sy [0] [] (sp 6 [(0, bo (eI .u8) x_code)]) [] 0 ?_
 refine Aw.sreg [2] [] (yu 1 [(3, bo (eI .u8) x_code)] [] 0 ?_)
 obtain ⟨v1, hv1, hh⟩ := bind_some hh
 refine ys (.call 55 [(.t 3)]) (some 4) (op_callf (v' := pp 0) (Hp' := [(0, some ⟨110, (B_110 v1)⟩)]) (n' := 1) [] (spec_l20Open_fn hv1) (args' := [bo (eI .u8) x_code]) (by kernel_rfl) rfl rfl rfl (rens_c (ren_bor (rens_same (noRefs_fl nr_eI))) rens_n) rfl hs_nil (ren_p (by decide) rfl) rfl (hq ⟨110, (B_110 v1)⟩ (rens_same (nr_B_110 _)) hs_nil) rfl ?_)
 obtain ⟨v2, hv2, hh⟩ := bind_some hh
 refine ys (.call 67 [(.t 4), (.c (ii 3))]) (some 5) (op_callf (v' := ii v2.2) (Hp' := [(0, some ⟨110, (B_110 v2.1)⟩)]) (n' := 1) [0] (__spec_l20Rd__pick_fn hv2) (args' := [pp 0, ii 3]) (by kernel_rfl) rfl rfl rfl (rens_c (ren_p (by decide) rfl) (rens_i rens_n)) rfl (hq ⟨110, (B_110 v1)⟩ (rens_same (nr_B_110 _)) hs_nil) ren_i rfl (hq ⟨110, (B_110 v2.1)⟩ (rens_same (nr_B_110 _)) hs_nil) rfl ?_)
 refine yt (sp 6 [(2, ii v2.2)]) [] 1 ?_
 refine Aw.ret ?_
 rw [some_some hh]
 exact gvi
end Go.Proofs.Ytbogmfjpabfhpaa
