/- Plain functions of the program, and that it hands back what they say. Made by program. -/
import Derived.Test.YtbnjdmclnojlmaaWT
import Derived.Test.YtbnjdmclnojlmaaProg
import Derived.Test.YtbnjdmclnojlmaaWHO1
import Derived.Test.YtbnjdmclnojlmaaWO1
namespace Go.Proofs.Ytbnjdmclnojlmaa
open Go.RowKit
set_option maxRecDepth 100000
set_option linter.all false
set_option maxHeartbeats 0
theorem low_impl_isThere : LW 46 ⟨18, [(.tmp 4)], (.seq (.reg false (rg 46 0)) (.seq (.reg false (rg 46 1)) .ret))⟩ := kr
noncomputable def F_impl_isThere (x_guests : List DGuest) (x_g : Int) : Option Bool :=
 cond (decide ((0 : Int) ≤ x_g))
  (cond (decide (x_g < (3 : Int)))
   (grd ((0 : Int) ≤ x_g ∧ x_g < ((List.length x_guests : Nat) : Int)) (some ((List.getD x_guests (Int.toNat x_g) default).Live)))
   (some false))
  (some false)
theorem impl_isThere_fn {x_guests : List DGuest} {x_g : Int} {R_ : Bool} (hh : F_impl_isThere x_guests x_g = some R_) : Fn Try.prog 46 [bo B_108 x_guests, .int .i64 x_g] (.bool R_) := by
 let z1 := List.getD x_guests (Int.toNat x_g) default
 unfold F_impl_isThere at hh
 refine Fn.start low_impl_isThere [0, 1] (E := sp 18 [(0, bo B_108 x_guests), (1, ii x_g)]) kr (v := bb R_) (Hr := []) (k := 0) kr (sy [0, 1] [] (sp 18 [(0, bo B_108 x_guests), (1, ii x_g)]) [] 0 (Aw.sreg [4] [] (yu 3 [(5, ii x_g), (6, bb (decide ((0 : Int) ≤ x_g))), (7, bb (decide ((0 : Int) ≤ x_g)))] [] 0 ?_)))
 rcases cond_sf hh with ⟨hb, hh⟩ | ⟨hb, hh⟩
 · exact yb 6 hb (yb 7 hb (yt (sp 18 [(4, bb false)]) [] 0 (Aw.ret (gvbs hh))))
 refine yb 6 hb (yb 7 hb (yu 4 [(6, bb true), (7, bb true), (8, ii x_g), (9, bb (decide (x_g < (3 : Int)))), (10, bb (decide (x_g < (3 : Int)))), (11, bb (decide (x_g < (3 : Int))))] [] 0 ?_))
 rcases cond_sf hh with ⟨hb, hh⟩ | ⟨hb, hh⟩
 · exact yb 9 hb (yb 10 hb (yb 11 hb (yt (sp 18 [(4, bb false)]) [] 0 (Aw.ret (gvbs hh)))))
 refine yb 9 hb (yb 10 hb (yb 11 hb (yu 2 [(9, bb true), (10, bb true), (11, bb true), (12, bo B_108 x_guests), (13, ii x_g)] [] 0 ?_)))
 obtain ⟨hg2, hh⟩ := grd_some hh
 refine yg (.iadr 17 (.t 12) (.t 13)) (some 14) 11 true (op_iadr (kd := .i64) (c := B_108) (xs := x_guests) len_B_108 dd kr kr hg2 ?_)
 refine yu 1 [(14, .bptr (fl B_108 x_guests) (Int.toNat x_g * 17)), (15, .bptr (fl B_108 x_guests) (Int.toNat x_g * 17 + 0))] [] 0 (yg (.load false 1 (.t 15)) (some 16) 11 true (op_loadb (c := B_108) (xs := x_guests) (o := Int.toNat x_g * 17 + 0) (i := (Int.toNat x_g)) (off := 0) (v := bb (z1.Live)) len_B_108 kr ltn ltn dd kr ?_))
 exact yt (sp 18 [(4, bb (z1.Live))]) [] 0 (Aw.ret (gvbs hh))
theorem low_spec_l4Live : LW 37 ⟨19, [(.tmp 4)], (.seq (.reg false (rg 37 0)) (.seq (.reg false (rg 37 1)) .ret))⟩ := kr
noncomputable def F_spec_l4Live (x_h : DHost) (x_g : Int) : Option Bool :=
 Option.bind (F_spec_HostOk x_h) fun v1 =>
 cond v1
  (Option.bind (F_spec_l1In x_g (0 : Int) (2 : Int)) fun v2 =>
  cond v2
   (grd ((0 : Int) ≤ x_g ∧ x_g < ((List.length x_h.Guests : Nat) : Int)) (some ((List.getD x_h.Guests (Int.toNat x_g) default).Live)))
   (some false))
  (some false)
theorem spec_l4Live_fn {x_h : DHost} {x_g : Int} {R_ : Bool} (hh : F_spec_l4Live x_h x_g = some R_) : Fn Try.prog 37 [.agg (B_26 x_h), .int .i64 x_g] (.bool R_) := by
 let z2 : EH := (0, some (rB26 x_h)); let z1 := List.getD x_h.Guests (Int.toNat x_g) default
 unfold F_spec_l4Live at hh
 refine Fn.start low_spec_l4Live [0, 1] (E := sp 19 [(0, .agg (B_26 x_h)), (1, ii x_g)]) kr (v := bb R_) (Hr := []) (k := 0) kr (sy [1, 2] [0] (sp 19 [(1, ii x_g), (2, pp 0)]) [z2] 1 (Aw.sreg [4] [] (yu 1 [(5, .agg (B_26 x_h))] [z2] 1 ?_)))
 obtain ⟨v1, hv1, hh⟩ := bind_some hh
 refine ys (.call 36 [(.t 5)]) (some 6) (op_call (r := bb v1) (v := bb v1) (Hr := []) (n' := 1) (spec_HostOk_fn hv1) (clz_v (vs := [.agg (B_26 x_h)]) kr (clz_c (clo_same (clean_agg (cl_B_26 _))) clz_n)) rfl rfl kr ?_)
 refine yu 1 [(6, bb v1), (7, bb v1)] [z2] 1 ?_
 rcases cond_sf hh with ⟨hb, hh⟩ | ⟨hb, hh⟩
 · exact yb 6 hb (yb 7 hb (yt (sp 19 [(4, bb false)]) [] 1 (Aw.ret (gvbs hh))))
 refine yb 6 hb (yb 7 hb (yu 1 [(6, bb true), (7, bb true), (8, ii x_g)] [z2] 1 ?_))
 obtain ⟨v2, hv2, hh⟩ := bind_some hh
 refine yg (.call 38 [(.t 8), (.c (ii 0)), (.c (ii 2))]) (some 9) 7 true (oc (spec_l1In_fn hv2) ?_)
 refine yu 2 [(9, bb v2), (10, bb v2), (11, bb v2)] [z2] 1 ?_
 rcases cond_sf hh with ⟨hb, hh⟩ | ⟨hb, hh⟩
 · exact yb 9 hb (yb 10 hb (yb 11 hb (yt (sp 19 [(4, bb false)]) [] 1 (Aw.ret (gvbs hh)))))
 refine yb 9 hb (yb 10 hb (yb 11 hb (yu 3 [(9, bb true), (10, bb true), (11, bb true), (12, .ptr 0 [] 1), (13, bo B_108 x_h.Guests), (14, ii x_g)] [z2] 1 ?_)))
 obtain ⟨hg2, hh⟩ := grd_some hh
 refine yg (.iadr 17 (.t 13) (.t 14)) (some 15) 11 true (op_iadr (kd := .i64) (c := B_108) (xs := x_h.Guests) len_B_108 dd kr kr hg2 ?_)
 refine yu 1 [(15, .bptr (fl B_108 x_h.Guests) (Int.toNat x_g * 17)), (16, .bptr (fl B_108 x_h.Guests) (Int.toNat x_g * 17 + 0))] [z2] 1 (yg (.load false 1 (.t 16)) (some 17) 11 true (op_loadb (c := B_108) (xs := x_h.Guests) (o := Int.toNat x_g * 17 + 0) (i := (Int.toNat x_g)) (off := 0) (v := bb (z1.Live)) len_B_108 kr ltn ltn dd kr ?_))
 exact yt (sp 19 [(4, bb (z1.Live))]) [] 1 (Aw.ret (gvbs hh))
end Go.Proofs.Ytbnjdmclnojlmaa
