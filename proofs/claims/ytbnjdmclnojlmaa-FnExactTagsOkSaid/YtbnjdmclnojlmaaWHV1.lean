/- Plain functions of the program, and that it hands back what they say. Made by program. -/
import Derived.Test.YtbnjdmclnojlmaaWT
import Derived.Test.YtbnjdmclnojlmaaProg
namespace Go.Proofs.Ytbnjdmclnojlmaa
open Go.RowKit
set_option maxRecDepth 100000
set_option linter.all false
set_option maxHeartbeats 0
theorem low_impl_pageOf : LW 114 ⟨12, [(.tmp 4)], (.seq (.reg false (rg 114 0)) (.seq (.reg false (rg 114 1)) .ret))⟩ := kr
noncomputable def F_impl_pageOf (x_words : List Int) (x_page : Int) : Option (List Int) :=
 grd ((0 : Int) ≤ (w64 (x_page * (8 : Int))) ∧ (w64 (x_page * (8 : Int))) ≤ (w64 ((w64 (x_page + (1 : Int))) * (8 : Int))) ∧ (w64 ((w64 (x_page + (1 : Int))) * (8 : Int))) ≤ ((List.length x_words : Nat) : Int)) (some (List.take (Int.toNat (w64 ((w64 (x_page + (1 : Int))) * (8 : Int))) - Int.toNat (w64 (x_page * (8 : Int)))) (List.drop (Int.toNat (w64 (x_page * (8 : Int)))) x_words)))
theorem impl_pageOf_fn {x_words : List Int} {x_page : Int} {R_ : (List Int)} (hh : F_impl_pageOf x_words x_page = some R_) : Fn Try.prog 114 [bo (eI .i64) x_words, .int .i64 x_page] (bo (eI .i64) R_) := by
 let z1 := List.drop (Int.toNat (w64 (x_page * (8 : Int)))) x_words; let z2 := List.take (Int.toNat (w64 ((w64 (x_page + (1 : Int))) * (8 : Int))) - Int.toNat (w64 (x_page * (8 : Int)))) z1
 unfold F_impl_pageOf at hh
 refine Fn.start low_impl_pageOf [0, 1] (E := sp 12 [(0, bo (eI .i64) x_words), (1, ii x_page)]) kr (v := bo (eI .i64) R_) (Hr := []) (k := 0) kr (sy [0, 1] [] (sp 12 [(0, bo (eI .i64) x_words), (1, ii x_page)]) [] 0 (Aw.sreg [4] [] (yu 6 [(5, bo (eI .i64) x_words), (6, ii x_page), (7, ii (w64 (x_page * (8 : Int)))), (8, ii x_page), (9, ii (w64 (x_page + (1 : Int)))), (10, ii (w64 ((w64 (x_page + (1 : Int))) * (8 : Int))))] [] 0 ?_)))
 obtain ⟨hg2, hh⟩ := grd_some hh
 refine ys (.slc 1 (.t 5) (some (.t 7)) (some (.t 10))) (some 11) (op_slc (c := (eI .i64)) (xs := x_words) (l := (w64 (x_page * (8 : Int)))) (h := (w64 ((w64 (x_page + (1 : Int))) * (8 : Int)))) len_eI kr kr kr hg2 ?_)
 refine yt (sp 12 [(4, bo (eI .i64) z2)]) [] 0 (Aw.ret ?_)
 rw [some_some hh]
 exact gives (r' := bo (eI .i64) z2) kr (Ent.clov (.one _ _ (clo_same (clean_bor (cleans_fl cl_eI)))))
end Go.Proofs.Ytbnjdmclnojlmaa
