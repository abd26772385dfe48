/- Plain functions of the program, and that it hands back what they say. Made by program. -/
import Derived.Test.YtlikfpmbcdlnjaaWT
import Derived.Test.YtlikfpmbcdlnjaaProg
import Derived.Test.YtlikfpmbcdlnjaaWD1
import Derived.Test.YtlikfpmbcdlnjaaWG1
import Derived.Test.YtlikfpmbcdlnjaaWGH1
namespace Go.Proofs.Ytlikfpmbcdlnjaa
open Go.RowKit
set_option maxRecDepth 100000
set_option linter.all false
set_option maxHeartbeats 0
def Lf64_r0 : List LOper := [oo 2 (.fresh 26 [.nil, .nil]), oo 3 (.mv (.c (ii 0)))]
def Lf64_r1 : List LOper := [om 5 0, oo 6 (.call 66 [(.t 5)]), om 4 6]
def Lf64_r2 : List LOper := [om 7 4, oo 8 (.call 67 [(.t 7), (.c (ii 15))]), om 9 4, oo 10 (.call 90 [(.t 9), (.c (ii 4))]), om 11 4, oo 12 (.call 90 [(.t 11), (.c (ii 12))]), oo 13 (.bin .quo (.t 12) (.c (ii 11))), oo 14 (.bin .sub (.t 10) (.t 13)), ⟨none, (.store 2 (.t 2) (.t 8)), none⟩, om 3 14]
def Lf64 : LFun := ⟨15, [(.cell 2 true 2), (.tmp 3)], (.seq (.reg false Lf64_r0) (.seq (.reg false Lf64_r1) (.seq (.reg false Lf64_r2) .ret)))⟩
theorem low_spec_DrawHostDrop : lowFun Go.Proofs.Try.prog 64 = some Lf64 := by kernel_rfl
noncomputable def F_spec_DrawHostDrop (x_code : List Int) : Option (DHost × Int) :=
 Option.bind (F_spec_l20Open x_code) fun v1 =>
 Option.bind (F_spec_l20Host v1 (15 : Int)) fun v2 =>
 Option.bind (F___spec_l20Rd__pick v2.1 (4 : Int)) fun v3 =>
 Option.bind (F___spec_l20Rd__pick v3.1 (12 : Int)) fun v4 =>
 some (v2.2, (w64 (v3.2 - (w64 (Int.tdiv v4.2 (11 : Int))))))
theorem spec_DrawHostDrop_fn {x_code : List Int} {R_ : DHost × Int} (hh : F_spec_DrawHostDrop x_code = some R_) : Fn Try.prog 64 [bo (eI .u8) x_code] (.tup [.agg [.own 3 1 (List.length R_.1.Words) (fl (eI .i64) R_.1.Words), .own 53 17 (List.length R_.1.Guests) (fl O_53 R_.1.Guests)], .int .i64 R_.2]) := by
 let z1 : EH := (0, some ⟨26, [.nil, .nil]⟩)
 unfold F_spec_DrawHostDrop at hh
 refine Fn.start low_spec_DrawHostDrop [0] (E := sp 15 [(0, bo (eI .u8) x_code)]) kr (v := .tup [.agg [sw 0 R_.1.Words, .sref 1 [] 0 (List.length R_.1.Guests) 17], ii R_.2]) (Hr := [(1, some ⟨53, (fl O_53 R_.1.Guests)⟩), (0, some ⟨3, (fl (eI .i64) R_.1.Words)⟩)]) (k := 2) kr (sy [0, 2] [0] (sp 15 [(0, bo (eI .u8) x_code), (2, pp 0)]) [z1] 1 (Aw.sreg [2, 4] [0, 1] (yu 1 [(5, bo (eI .u8) x_code)] [z1] 1 ?_)))
 obtain ⟨v1, hv1, hh⟩ := bind_some hh
 let z2 : EH := (1, some ⟨135, (B_135 v1)⟩)
 refine ys (.call 66 [(.t 5)]) (some 6) (op_callf (v' := pp 1) (Hp' := [z2]) (n' := 2) [] (spec_l20Open_fn hv1) (args' := [bo (eI .u8) x_code]) kr rfl rfl rfl rz rfl hs_nil (ren_p dd rfl) rfl (hq ⟨135, (B_135 v1)⟩ (rens_same (nr_B_135 _)) hs_nil) rfl ?_)
 refine yt (sp 15 [(2, pp 0), (4, pp 1)]) [z1, z2] 2 (Aw.sreg [2, 3] [0, 2, 3] (yu 1 [(7, pp 1)] [z1, z2] 2 ?_))
 obtain ⟨v2, hv2, hh⟩ := bind_some hh
 let z3 : EH := (1, some ⟨135, (B_135 v2.1)⟩)
 let q1 : Root := ⟨53, (fl O_53 v2.2.Guests)⟩
 let q2 : Root := ⟨3, (fl (eI .i64) v2.2.Words)⟩
 refine ys (.call 67 [(.t 7), (.c (ii 15))]) (some 8) (op_callf (v' := .agg [sw 2 v2.2.Words, .sref 3 [] 0 (List.length v2.2.Guests) 17]) (Hp' := [(3, some q1), (2, some q2), z3]) (n' := 4) [1] (spec_l20Host_fn hv2) (args' := [pp 1, ii 15]) kr rfl rfl rfl rz rfl (hq ⟨135, (B_135 v1)⟩ (rens_same (nr_B_135 _)) hs_nil) (ren_agg rz) rfl (hn nr_O_53 (hn nr_eI (hq ⟨135, (B_135 v2.1)⟩ (rens_same (nr_B_135 _)) hs_nil))) rfl ?_)
 refine yu 1 [(8, .agg [sw 2 v2.2.Words, .sref 3 [] 0 (List.length v2.2.Guests) 17]), (9, pp 1)] [(3, some q1), (2, some q2), z3, (1, none), z1, z2] 4 ?_
 obtain ⟨v3, hv3, hh⟩ := bind_some hh
 refine ys (.call 90 [(.t 9), (.c (ii 4))]) (some 10) (op_callf (v' := ii v3.2) (Hp' := [(1, some ⟨135, (B_135 v3.1)⟩)]) (n' := 4) [1] (__spec_l20Rd__pick_fn hv3) (args' := [pp 1, ii 4]) kr rfl rfl rfl rz rfl (hq ⟨135, (B_135 v2.1)⟩ (rens_same (nr_B_135 _)) hs_nil) ren_i rfl (hq ⟨135, (B_135 v3.1)⟩ (rens_same (nr_B_135 _)) hs_nil) rfl ?_)
 refine yu 1 [(10, ii v3.2), (11, pp 1)] [(1, some ⟨135, (B_135 v3.1)⟩), (1, none), (3, some q1), (2, some q2), z3, (1, none), z1, z2] 4 ?_
 obtain ⟨v4, hv4, hh⟩ := bind_some hh
 refine ys (.call 90 [(.t 11), (.c (ii 12))]) (some 12) (op_callf (v' := ii v4.2) (Hp' := [(1, some ⟨135, (B_135 v4.1)⟩)]) (n' := 4) [1] (__spec_l20Rd__pick_fn hv4) (args' := [pp 1, ii 12]) kr rfl rfl rfl rz rfl (hq ⟨135, (B_135 v3.1)⟩ (rens_same (nr_B_135 _)) hs_nil) ren_i rfl (hq ⟨135, (B_135 v4.1)⟩ (rens_same (nr_B_135 _)) hs_nil) rfl ?_)
 refine ytc [(11 : Int) ≠ 0] (sp 15 [(2, pp 0), (3, ii (w64 (v3.2 - (w64 (Int.tdiv v4.2 (11 : Int))))))]) [(0, some ⟨26, [sw 2 v2.2.Words, .sref 3 [] 0 (List.length v2.2.Guests) 17]⟩), (2, some q2), (3, some q1)] 4 (.cons dd .nil) (Aw.ret ?_)
 rw [some_some hh]
 exact gives (r' := .tup [.agg [sw 2 v2.2.Words, .sref 3 [] 0 (List.length v2.2.Guests) 17], ii (w64 (v3.2 - (w64 (Int.tdiv v4.2 (11 : Int)))))]) kr (Ent.list [some 2, some 3] rfl rfl (Nat.zero_le _) (rens_1 (ren_tup rz)) (hn nr_O_53 (hn nr_eI hs_nil)))
end Go.Proofs.Ytlikfpmbcdlnjaa
