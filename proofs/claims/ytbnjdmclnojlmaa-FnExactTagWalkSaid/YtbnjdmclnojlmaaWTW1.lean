/- Plain functions of the program, and that it hands back what they say. Made by program. -/
import Derived.Test.YtbnjdmclnojlmaaWT
import Derived.Test.YtbnjdmclnojlmaaProg
import Derived.Test.YtbnjdmclnojlmaaWHC1
import Derived.Test.YtbnjdmclnojlmaaWO1
import Derived.Test.YtbnjdmclnojlmaaWSO1
import Derived.Test.YtbnjdmclnojlmaaWSX1
import Derived.Test.YtbnjdmclnojlmaaWTK1
namespace Go.Proofs.Ytbnjdmclnojlmaa
open Go.RowKit
set_option maxRecDepth 100000
set_option linter.all false
set_option maxHeartbeats 0
theorem low_impl_copiedLines : LW 51 ⟨11, [(.tmp 2)], (.seq (.reg false (rg 51 0)) (.seq (.reg false (rg 51 1)) (.seq (.reg false (rg 51 2)) (.seq (.reg false (rg 51 3)) .ret))))⟩ := kr
noncomputable def F_impl_copiedLines (x_tags : List DLine) : Option (List DLine) :=
 grd ((0 : Int) ≤ (((List.length x_tags) : Nat) : Int) ∧ (((List.length x_tags) : Nat) : Int) * 48 ≤ 2 ^ 47 ∧ (((List.length x_tags) : Nat) : Int) ≤ 2 ^ 47) (some (over (List.replicate (Int.toNat (((List.length x_tags) : Nat) : Int)) (DLine.mk (0 : Int) (0 : Int) (DShade.mk false false false (0 : Int) (0 : Int) false))) 0 (List.length (List.replicate (Int.toNat (((List.length x_tags) : Nat) : Int)) (DLine.mk (0 : Int) (0 : Int) (DShade.mk false false false (0 : Int) (0 : Int) false)))) x_tags))
theorem impl_copiedLines_fn {x_tags : List DLine} {R_ : (List DLine)} (hh : F_impl_copiedLines x_tags = some R_) : Fn Try.prog 51 [bo C_47 x_tags] (.own 47 8 (List.length R_) (fl C_47 R_)) := by
 let z3 := (0, bo C_47 x_tags); let z1 := DShade.mk false false false (0 : Int) (0 : Int) false; let z2 := DLine.mk (0 : Int) (0 : Int) z1; let z4 : EV := (3, .sref 0 [] 0 (List.length (List.replicate (Int.toNat (((List.length x_tags) : Nat) : Int)) z2)) 8)
 unfold F_impl_copiedLines at hh
 refine Fn.start low_impl_copiedLines [0] (E := sp 11 [z3]) kr (v := .sref 0 [] 0 (List.length R_) 8) (Hr := [(0, some (rC47 R_))]) (k := 1) kr (sy [0] [] (sp 11 [z3]) [] 0 (Aw.sreg [0, 3] [0] (yu 2 [(4, bo C_47 x_tags), (5, ii (((List.length x_tags) : Nat) : Int))] [] 0 ?_)))
 obtain ⟨hg2, hh⟩ := grd_some hh
 refine ys (.mk 47 8 48 zc2 (.t 5)) (some 6) (op_mk (c := C_47) (d := z2) (k := (((List.length x_tags) : Nat) : Int)) kr hg2 kr ?_)
 let q1 : Root := (rC47 (List.replicate (Int.toNat (((List.length x_tags) : Nat) : Int)) z2))
 refine yt (sp 11 [z3, z4]) [(0, some q1)] 1 (Aw.sreg [3] [0] (yu 2 [(7, .sref 0 [] 0 (List.length (List.replicate (Int.toNat (((List.length x_tags) : Nat) : Int)) z2)) 8), (8, bo C_47 x_tags)] [(0, some q1)] 1 ?_))
 let q2 : Root := (rC47 (over (List.replicate (Int.toNat (((List.length x_tags) : Nat) : Int)) z2) 0 (List.length (List.replicate (Int.toNat (((List.length x_tags) : Nat) : Int)) z2)) x_tags))
 refine ys (.cpy 8 (.t 7) (.t 8)) (some 9) (op_cpy (c := C_47) (xs := (List.replicate (Int.toNat (((List.length x_tags) : Nat) : Int)) z2)) (ys := x_tags) (e := 47) (r := 0) (π := []) (o := 0) (k := (List.length (List.replicate (Int.toNat (((List.length x_tags) : Nat) : Int)) z2))) (i := 0) (H' := [(0, some q2), (0, some q1)]) len_C_47 (rpv kr (rp_bor (c := C_47) (xs := x_tags) len_C_47)) kr kr ltn ltn kr ?_)
 refine yt (sp 11 [z4]) [(0, some q2)] 1 (sy [2] [0] (sp 11 [(2, .sref 0 [] 0 (List.length (List.replicate (Int.toNat (((List.length x_tags) : Nat) : Int)) z2)) 8)]) [(0, some q2)] 1 (Aw.ret ?_))
 rw [some_some hh]
 exact gives (r' := .sref 0 [] 0 (List.length (List.replicate (Int.toNat (((List.length x_tags) : Nat) : Int)) z2)) 8) kr (Ent.list [some 0] rfl rfl (Nat.zero_le _) (rens_1 ren_sy) (hn nr_C_47 hs_nil))
theorem low_impl_withLine : LW 50 ⟨15, [(.tmp 4)], (.seq (.reg false (rg 50 0)) (.seq (.seq (.reg false (rg 50 1)) (.cond (.t 7) (.reg false (rg 50 2)) .skip)) (.seq (.regd (rg 50 3) (rg 50 4)) .ret)))⟩ := kr
noncomputable def F_impl_withLine_j1 (x_line : DLine) (s1 : (List DLine)) : Option (List DLine) :=
 Option.bind (F_impl_copiedLines s1) fun v2 =>
 grd ((List.length v2 + List.length ([x_line] : List DLine)) * 48 ≤ 2 ^ 47 ∧ List.length v2 + List.length ([x_line] : List DLine) ≤ 2 ^ 47) (some (v2 ++ ([x_line] : List DLine)))
noncomputable def F_impl_withLine (x_tags : List DLine) (x_line : DLine) : Option (List DLine) :=
 Option.bind (cond (decide ((((List.length x_tags) : Nat) : Int) = (6 : Int)))
  (grd ((0 : Int) ≤ (1 : Int) ∧ (1 : Int) ≤ ((List.length x_tags : Nat) : Int) ∧ ((List.length x_tags : Nat) : Int) ≤ ((List.length x_tags : Nat) : Int)) (some (.go (List.take (Int.toNat ((List.length x_tags : Nat) : Int) - Int.toNat (1 : Int)) (List.drop (Int.toNat (1 : Int)) x_tags)))))
  (some (.go x_tags))) fun j1 =>
  JO.run j1 (F_impl_withLine_j1 x_line)
theorem impl_withLine_fn {x_tags : List DLine} {x_line : DLine} {R_ : (List DLine)} (hh : F_impl_withLine x_tags x_line = some R_) : Fn Try.prog 50 [bo C_47 x_tags, .agg (C_47 x_line)] (.own 47 8 (List.length R_) (fl C_47 R_)) := by
 let z3 := (0, bo C_47 x_tags); let z4 : EH := (0, some ⟨47, (C_47 x_line)⟩); let z5 := (7, bb (decide ((((List.length x_tags) : Nat) : Int) = (6 : Int)))); let z1 := List.drop (Int.toNat (1 : Int)) x_tags; let z2 := List.take (Int.toNat ((List.length x_tags : Nat) : Int) - Int.toNat (1 : Int)) z1
 unfold F_impl_withLine at hh
 refine Fn.start low_impl_withLine [0, 1] (E := sp 15 [z3, (1, .agg (C_47 x_line))]) kr (v := .sref 0 [] 0 (List.length R_) 8) (Hr := [(0, some (rC47 R_))]) (k := 1) kr (sy [0, 3] [0] (sp 15 [z3, (3, pp 0)]) [z4] 1 ?_)
 obtain ⟨j1, hh, hk1⟩ := bind_some hh
 refine Aw.join (S := (List DLine)) (fun s1 => sp 15 [(0, bo C_47 s1), (3, pp 0)]) (fun s1 => [(0, some ⟨47, (C_47 x_line)⟩)]) 1 (fun s1 => F_impl_withLine_j1 x_line s1 = some R_) ?_ ?_
 · intro s1 hh
   unfold F_impl_withLine_j1 at hh
   refine Aw.sregd [4] [2] [] kr (dj 1 (sp 15 [(0, bo C_47 s1), (3, pp 0), (10, bo C_47 s1)]) [z4] 1 ?_)
   obtain ⟨v2, hv2, hh⟩ := bind_some hh
   let z6 : EH := (1, some (rC47 v2))
   refine ds (.call 51 [(.t 10)]) (some 11) (ydo_n rfl (op_call (r := .own 47 8 (List.length v2) (fl C_47 v2)) (v := .sref 1 [] 0 (List.length v2) 8) (Hr := [z6]) (n' := 2) (impl_copiedLines_fn hv2) (clz_v (vs := [bo C_47 s1]) kr (clz_c (clo_same (clean_bor (cleans_fl cl_C_47))) clz_n)) nrr nrr kr ⟨⟨⟨by decide, agr_name (n := 1) (n0 := 1) (r := .own 47 8 (List.length v2) (fl C_47 v2)) (v := .sref 1 [] 0 (List.length v2) 8) (Hr := [z6]) (n' := 2) kr dd⟩, Hld.un ?_⟩⟩))
   refine dt (sp 15 [(0, bo C_47 s1), (3, pp 0), (10, bo C_47 s1), (11, .sref 1 [] 0 (List.length v2) 8), (12, .agg (C_47 x_line)), (13, .bor 1 (C_47 x_line))]) [z6, z4] 2 ?_
   obtain ⟨hg6, hh⟩ := grd_some hh
   refine ys (.app 47 8 48 zc2 (.t 11) (.t 13)) (some 14) (op_app (c := C_47) (xs := v2) (ys := ([x_line] : List DLine)) (r := 1) (k := (List.length v2)) (π := []) eqn len_C_47 kr kr kr hg6 ?_)
   let q1 : Root := (rC47 (v2 ++ ([x_line] : List DLine)))
   refine yt (sp 15 [(4, .sref 2 [] 0 (List.length (v2 ++ ([x_line] : List DLine))) 8)]) [(2, some q1)] 3 (Aw.ret ?_)
   rw [some_some hh]
   exact gives (r' := .sref 2 [] 0 (List.length (v2 ++ ([x_line] : List DLine))) 8) kr (Ent.list [some 2] rfl rfl (Nat.zero_le _) (rens_1 ren_sy) (hn nr_C_47 hs_nil))
 intro Q1 hN1 hR1 hE1
 refine sy [0, 3, 7] [0] (sp 15 [z3, (3, pp 0), z5]) [z4] 1 ?_
 rcases cond_sf hh with ⟨hb, hh⟩ | ⟨hb, hh⟩
 · refine cF hb (Aw.skip ?_)
   obtain rfl := some_some hh
   exact hN1 x_tags _ _ _ hk1 (el [some 0] (rens_sp kr (ro nr_C_47 (rp 0 rl_n))) (hq ⟨47, (C_47 x_line)⟩ (rens_same (nr_C_47 _)) hs_nil))
 refine cT hb (Aw.oreg (yu 1 [(8, bo C_47 x_tags)] [z4] 1 ?_))
 obtain ⟨hg8, hh⟩ := grd_some hh
 refine ys (.slc 8 (.t 8) (some (.c (ii 1))) none) (some 9) (op_slc (c := C_47) (xs := x_tags) (l := (1 : Int)) (h := ((List.length x_tags : Nat) : Int)) len_C_47 kr kr kr hg8 ?_)
 refine ye (sp 15 [(0, bo C_47 z2), (3, pp 0), z5, (8, bo C_47 x_tags), (9, bo C_47 z2)]) [z4] 1 ?_
 obtain rfl := some_some hh
 exact hN1 z2 _ _ _ hk1 (el [some 0] (rens_sp kr (ro nr_C_47 (rp 0 rl_n))) (hq ⟨47, (C_47 x_line)⟩ (rens_same (nr_C_47 _)) hs_nil))
theorem low_impl_TagWalk : LW 15 ⟨83, [(.tmp 12), (.tmp 13), (.tmp 14)], (.seq (.reg false (rg 15 0)) (.seq (.seq (.reg false (rg 15 1)) (.cond (.t 37) (.seq (.reg false (rg 15 2)) .ret) .skip)) (.seq (.reg false (rg 15 3)) (.seq (.reg false (rg 15 4)) (.seq (.seq (.reg false (rg 15 5)) (.cond (.t 45) (.seq (.reg false (rg 15 6)) (.seq (.reg false (rg 15 7)) (.seq (.reg false (rg 15 8)) .ret))) .skip)) (.seq (.reg false (rg 15 9)) (.seq (.reg false (rg 15 10)) .ret)))))))⟩ := kr
noncomputable def F_impl_TagWalk (x_h : DHost) (x_tags : List DLine) (x_g : Int) (x_addr : Int) (x_user : Bool) (x_write : Bool) : Option ((List DLine) × Int × Int) :=
 Option.bind (F_impl_TagsOk x_h x_tags) fun v1 =>
 cond (!v1)
  (some (([] : List DLine), (-1 : Int), (-1 : Int)))
  (Option.bind (F_impl_isThere x_h.Guests x_g) fun v2 =>
  cond (!v2)
   (some (([] : List DLine), (-1 : Int), (-1 : Int)))
   (Option.bind (F_impl_addressOk x_addr) fun v3 =>
   cond (!v3)
    (some (([] : List DLine), (-1 : Int), (-1 : Int)))
    (Option.bind (F_impl_lineFor x_tags x_g (w64 (Int.tdiv x_addr (8 : Int)))) fun v4 =>
    cond (decide (v4 = (-1 : Int)))
     (Option.bind (F_impl_shadeOf x_h x_g (w64 (Int.tdiv x_addr (8 : Int)))) fun v5 =>
     Option.bind (F_impl_shadeLeads v5 x_addr x_user x_write) fun v6 =>
     Option.bind (F_impl_withLine x_tags (DLine.mk x_g (w64 (Int.tdiv x_addr (8 : Int))) v5)) fun v7 =>
     some (v7, v6.1, v6.2))
     (grd ((0 : Int) ≤ v4 ∧ v4 < ((List.length x_tags : Nat) : Int)) (Option.bind (F_impl_shadeLeads (DShade.mk (((List.getD x_tags (Int.toNat v4) default).What).There) (((List.getD x_tags (Int.toNat v4) default).What).Write) (((List.getD x_tags (Int.toNat v4) default).What).User) (((List.getD x_tags (Int.toNat v4) default).What).Page) (((List.getD x_tags (Int.toNat v4) default).What).Frame) (((List.getD x_tags (Int.toNat v4) default).What).Ready)) x_addr x_user x_write) fun v8 =>
      Option.bind (F_impl_copiedLines x_tags) fun v9 =>
      some (v9, v8.1, v8.2))))))
theorem impl_TagWalk_fn {x_h : DHost} {x_tags : List DLine} {x_g : Int} {x_addr : Int} {x_user : Bool} {x_write : Bool} {R_ : (List DLine) × Int × Int} (hh : F_impl_TagWalk x_h x_tags x_g x_addr x_user x_write = some R_) : Fn Try.prog 15 [.agg (B_26 x_h), bo C_47 x_tags, .int .i64 x_g, .int .i64 x_addr, .bool x_user, .bool x_write] (.tup [.own 47 8 (List.length R_.1) (fl C_47 R_.1), .int .i64 R_.2.1, .int .i64 R_.2.2]) := by
 let z2 : EH := (0, some (rB26 x_h)); let z3 := (1, bo C_47 x_tags); let z4 := (15, ii (w64 (Int.tdiv x_addr (8 : Int)))); let z5 := (2, ii x_g); let z6 := (3, ii x_addr); let z7 := (4, bb x_user); let z8 := (5, bb x_write); let z9 := (6, pp 0)
 unfold F_impl_TagWalk at hh
 refine Fn.start low_impl_TagWalk [0, 1, 2, 3, 4, 5] (E := sp 83 [(0, .agg (B_26 x_h)), z3, z5, z6, z7, z8]) kr (v := .tup [.sref 0 [] 0 (List.length R_.1) 8, ii R_.2.1, ii R_.2.2]) (Hr := [(0, some (rC47 R_.1))]) (k := 1) kr (sy [1, 2, 3, 4, 5, 6] [0] (sp 83 [z3, z5, z6, z7, z8, z9]) [z2] 1 (Aw.seq (Aw.sreg [1, 2, 3, 4, 5, 6, 37] [0] (yj 2  (sp 83 [z3, z5, z6, z7, z8, z9, (22, .agg (B_26 x_h)), (23, bo C_47 x_tags)]) [z2] 1 ?_))))
 obtain ⟨v1, hv1, hh⟩ := bind_some hh
 refine ys (.call 10 [(.t 22), (.t 23)]) (some 24) (op_call (r := bb v1) (v := bb v1) (Hr := []) (n' := 1) (impl_TagsOk_fn hv1) (clz_v (vs := [.agg (B_26 x_h), bo C_47 x_tags]) kr (clz_c (clo_same (clean_agg (cl_B_26 _))) (clz_c (clo_same (clean_bor (cleans_fl cl_C_47))) clz_n))) rfl rfl kr ?_)
 refine yu 2 [(24, bb v1), (25, bb (!v1)), (26, bb (!v1))] [z2] 1 ?_
 rcases cond_some hh with ⟨hb, hh⟩ | ⟨hb, hh⟩
 · refine yb 25 hb (yb 26 hb (yt (sp 83 [z3, z5, z6, z7, z8, z9, (37, bb true)]) [z2] 1 (cT rfl (sy [12, 13, 14] [] (sp 83 [(12, .nil), (13, ii (-1)), (14, ii (-1))]) [] 1 (Aw.ret (then_r ?_))))))
   rw [some_some hh]
   exact gives (r' := .tup [.nil, ii (-1), ii (-1)]) kr (Ent.list [none] rfl rfl (Nat.zero_le _) (rens_1 (ren_tup rz)) (hs_no dd rfl rfl hs_nil))
 refine yb 25 hb (yb 26 hb (yu 3 [(25, bb false), (26, bb false), (27, .ptr 0 [] 1), (28, bo B_108 x_h.Guests), (29, ii x_g)] [z2] 1 ?_))
 obtain ⟨v2, hv2, hh⟩ := bind_some hh
 refine yg (.call 46 [(.t 28), (.t 29)]) (some 30) 26 false (op_call (r := bb v2) (v := bb v2) (Hr := []) (n' := 1) (impl_isThere_fn hv2) (clz_v (vs := [bo B_108 x_h.Guests, ii x_g]) kr (clz_c (clo_same (clean_bor (cleans_fl cl_B_108))) (cz1 clz_n))) rfl rfl kr ?_)
 refine yu 3 [(30, bb v2), (31, bb (!v2)), (32, bb (!v2)), (33, bb (!v2))] [z2] 1 ?_
 rcases cond_some hh with ⟨hb, hh⟩ | ⟨hb, hh⟩
 · refine yb 31 hb (yb 32 hb (yb 33 hb (yt (sp 83 [z3, z5, z6, z7, z8, z9, (37, bb true)]) [z2] 1 (cT rfl (sy [12, 13, 14] [] (sp 83 [(12, .nil), (13, ii (-1)), (14, ii (-1))]) [] 1 (Aw.ret (then_r ?_)))))))
   rw [some_some hh]
   exact gives (r' := .tup [.nil, ii (-1), ii (-1)]) kr (Ent.list [none] rfl rfl (Nat.zero_le _) (rens_1 (ren_tup rz)) (hs_no dd rfl rfl hs_nil))
 refine yb 31 hb (yb 32 hb (yb 33 hb (yu 1 [(31, bb false), (32, bb false), (33, bb false), (34, ii x_addr)] [z2] 1 ?_)))
 obtain ⟨v3, hv3, hh⟩ := bind_some hh
 refine yg (.call 47 [(.t 34)]) (some 35) 33 false (oc (impl_addressOk_fn hv3) ?_)
 refine yt (sp 83 [z3, z5, z6, z7, z8, z9, (37, bb (!v3))]) [z2] 1 ?_
 rcases cond_some hh with ⟨hb, hh⟩ | ⟨hb, hh⟩
 · refine cT hb (sy [12, 13, 14] [] (sp 83 [(12, .nil), (13, ii (-1)), (14, ii (-1))]) [] 1 (Aw.ret (then_r ?_)))
   rw [some_some hh]
   exact gives (r' := .tup [.nil, ii (-1), ii (-1)]) kr (Ent.list [none] rfl rfl (Nat.zero_le _) (rens_1 (ren_tup rz)) (hs_no dd rfl rfl hs_nil))
 refine cF hb (Aw.xskip (fun _ _ _ hq => then_m hq) (Aw.sreg [1, 2, 3, 4, 5, 6, 15] [0] (ytc [(8 : Int) ≠ 0] (sp 83 [z3, z5, z6, z7, z8, z9, z4]) [z2] 1 (.cons dd .nil) (Aw.sreg [1, 2, 3, 4, 5, 6, 15, 16] [0] (yu 3 [(40, bo C_47 x_tags), (41, ii x_g), (42, ii (w64 (Int.tdiv x_addr (8 : Int))))] [z2] 1 ?_)))))
 obtain ⟨v4, hv4, hh⟩ := bind_some hh
 let z10 := (45, bb (decide (v4 = (-1 : Int)))); let z1 := List.getD x_tags (Int.toNat v4) default
 refine ys (.call 35 [(.t 40), (.t 41), (.t 42)]) (some 43) (op_call (r := ii v4) (v := ii v4) (Hr := []) (n' := 1) (impl_lineFor_fn hv4) (clz_v (vs := [bo C_47 x_tags, ii x_g, ii (w64 (Int.tdiv x_addr (8 : Int)))]) kr (clz_c (clo_same (clean_bor (cleans_fl cl_C_47))) (cz1 (cz1 clz_n)))) rfl rfl kr ?_)
 refine yt (sp 83 [z3, z5, z6, z7, z8, z9, z4, (16, ii v4)]) [z2] 1 (Aw.seq (sy [1, 2, 3, 4, 5, 6, 15, 16, 45] [0] (sp 83 [z3, z5, z6, z7, z8, z9, z4, (16, ii v4), z10]) [z2] 1 ?_))
 rcases cond_sf hh with ⟨hb, hh⟩ | ⟨hb, hh⟩
 · refine cF hb (Aw.xskip (fun _ _ _ hq => then_m hq) (Aw.sreg [1, 20, 21] [] (yj 2  (sp 83 [z3, z5, z6, z7, z8, z9, z4, (16, ii v4), z10, (68, bo C_47 x_tags), (69, ii v4)]) [z2] 1 ?_)))
   obtain ⟨hg2, hh⟩ := grd_some hh
   refine ys (.iadr 8 (.t 68) (.t 69)) (some 70) (op_iadr (kd := .i64) (c := C_47) (xs := x_tags) len_C_47 dd kr kr hg2 ?_)
   refine yu 1 [(70, .bptr (fl C_47 x_tags) (Int.toNat v4 * 8)), (71, .bptr (fl C_47 x_tags) (Int.toNat v4 * 8 + 2))] [z2] 1 (ys (.load true 6 (.t 71)) (some 72) (op_loadbA (c := C_47) (xs := x_tags) (o := Int.toNat v4 * 8 + 2) (i := (Int.toNat v4)) (off := 2) (v := .agg [bb ((z1.What).There), bb ((z1.What).Write), bb ((z1.What).User), ii ((z1.What).Page), ii ((z1.What).Frame), bb ((z1.What).Ready)]) len_C_47 kr ltn ltn dd kr ?_))
   refine yu 3 [(72, .agg [bb ((z1.What).There), bb ((z1.What).Write), bb ((z1.What).User), ii ((z1.What).Page), ii ((z1.What).Frame), bb ((z1.What).Ready)]), (73, ii x_addr), (74, bb x_user), (75, bb x_write)] [z2] 1 ?_
   obtain ⟨v8, hv8, hh⟩ := bind_some hh
   refine ys (.call 49 [(.t 72), (.t 73), (.t 74), (.t 75)]) (some 76) (oc (impl_shadeLeads_fn hv8) ?_)
   refine yt (sp 83 [z3, (20, ii v8.1), (21, ii v8.2)]) [] 1 (Aw.sreg [12, 13, 14] [1] (yu 1 [(79, bo C_47 x_tags)] [] 1 ?_))
   obtain ⟨v9, hv9, hh⟩ := bind_some hh
   refine ys (.call 51 [(.t 79)]) (some 80) (op_call (r := .own 47 8 (List.length v9) (fl C_47 v9)) (v := .sref 1 [] 0 (List.length v9) 8) (Hr := [(1, some (rC47 v9))]) (n' := 2) (impl_copiedLines_fn hv9) (clz_v (vs := [bo C_47 x_tags]) kr (clz_c (clo_same (clean_bor (cleans_fl cl_C_47))) clz_n)) nrr nrr kr ?_)
   refine yt (sp 83 [(12, .sref 1 [] 0 (List.length v9) 8), (13, ii v8.1), (14, ii v8.2)]) [(1, some (rC47 v9))] 2 (Aw.ret ?_)
   rw [some_some hh]
   exact gives (r' := .tup [.sref 1 [] 0 (List.length v9) 8, ii v8.1, ii v8.2]) kr (Ent.list [some 1] rfl rfl (Nat.zero_le _) (rens_1 (ren_tup rz)) (hn nr_C_47 hs_nil))
 refine cT hb (Aw.sreg [1, 3, 4, 5, 17] [1] (yu 5 [(46, ii x_g), (47, ii (w64 (Int.tdiv x_addr (8 : Int)))), (48, .agg (B_26 x_h)), (49, ii x_g), (50, ii (w64 (Int.tdiv x_addr (8 : Int))))] [z2] 1 ?_))
 obtain ⟨v5, hv5, hh⟩ := bind_some hh
 refine ys (.call 48 [(.t 48), (.t 49), (.t 50)]) (some 51) (op_call (r := .agg (C_45 v5)) (v := .agg (C_45 v5)) (Hr := []) (n' := 1) (impl_shadeOf_fn hv5) (clz_v (vs := [.agg (B_26 x_h), ii x_g, ii (w64 (Int.tdiv x_addr (8 : Int)))]) kr (clz_c (clo_same (clean_agg (cl_B_26 _))) (cz1 (cz1 clz_n)))) rfl rfl kr ?_)
 let q1 : Root := ⟨47, (ii x_g :: ii (w64 (Int.tdiv x_addr (8 : Int))) :: ru45 v5 [])⟩
 refine yt (sp 83 [z3, z6, z7, z8, (17, pp 1)]) [(1, some q1)] 2 (Aw.sreg [1, 17, 18, 19] [1] (yu 5 [(54, .ptr 1 [] 2), (55, .agg (C_45 v5)), (56, ii x_addr), (57, bb x_user), (58, bb x_write)] [(1, some q1)] 2 ?_))
 obtain ⟨v6, hv6, hh⟩ := bind_some hh
 refine ys (.call 49 [(.t 55), (.t 56), (.t 57), (.t 58)]) (some 59) (oc (impl_shadeLeads_fn hv6) ?_)
 refine yt (sp 83 [z3, (17, pp 1), (18, ii v6.1), (19, ii v6.2)]) [(1, some q1)] 2 (Aw.sreg [12, 13, 14] [2] (yu 2 [(62, bo C_47 x_tags), (63, .agg (ii x_g :: ii (w64 (Int.tdiv x_addr (8 : Int))) :: ru45 v5 []))] [(1, some q1)] 2 ?_))
 obtain ⟨v7, hv7, hh⟩ := bind_some hh
 refine ys (.call 50 [(.t 62), (.t 63)]) (some 64) (op_call (r := .own 47 8 (List.length v7) (fl C_47 v7)) (v := .sref 2 [] 0 (List.length v7) 8) (Hr := [(2, some (rC47 v7))]) (n' := 3) (impl_withLine_fn hv7) (clz_v (vs := [bo C_47 x_tags, .agg (ii x_g :: ii (w64 (Int.tdiv x_addr (8 : Int))) :: ru45 v5 [])]) kr (clz_c (clo_same (clean_bor (cleans_fl cl_C_47))) (cz1 clz_n))) nrr nrr kr ?_)
 refine yt (sp 83 [(12, .sref 2 [] 0 (List.length v7) 8), (13, ii v6.1), (14, ii v6.2)]) [(2, some (rC47 v7))] 3 (Aw.ret (then_r ?_))
 rw [some_some hh]
 exact gives (r' := .tup [.sref 2 [] 0 (List.length v7) 8, ii v6.1, ii v6.2]) kr (Ent.list [some 2] rfl rfl (Nat.zero_le _) (rens_1 (ren_tup rz)) (hn nr_C_47 hs_nil))
theorem low_spec_TagWalk : LW 16 ⟨107, [(.tmp 12), (.tmp 13), (.tmp 14)], (.seq (.reg false (rg 16 0)) (.seq (.reg false (rg 16 1)) (.seq (.seq (.reg false (rg 16 2)) (.cond (.t 36) (.seq (.reg false (rg 16 3)) .ret) .skip)) (.seq (.reg false (rg 16 4)) (.seq (.reg false (rg 16 5)) (.seq (.reg false (rg 16 6)) (.seq (.seq (.reg false (rg 16 7)) (.block 0 (.loop (.seq (.seq (.reg false (rg 16 8)) (.cond (.t 45) .skip (.exit 0))) (.seq (.block 1 (.seq (.reg false (rg 16 9)) (.cond (.t 64) (.seq (.reg false (rg 16 10)) (.reg false (rg 16 11))) .skip))) (.reg false (rg 16 12))))))) (.seq (.seq (.reg false (rg 16 14)) (.cond (.t 75) (.seq (.reg false (rg 16 15)) (.seq (.reg false (rg 16 16)) (.seq (.reg false (rg 16 17)) (.cond (.t 93) (.reg false (rg 16 18)) .skip)))) .skip)) (.seq (.reg false (rg 16 19)) (.seq (.reg false (rg 16 20)) .ret))))))))))⟩ := kr
noncomputable def F_spec_TagWalk_j5 (x_addr : Int) (x_user : Bool) (x_write : Bool) (s5 : (List DLine) × (List DShade)) : Option ((List DLine) × Int × Int) :=
 Option.bind (F_spec_l5Place s5.2 x_addr x_user x_write) fun v6 =>
 some (s5.1, v6.1, v6.2)
noncomputable def F_spec_TagWalk_j4 (x_h : DHost) (x_tags : List DLine) (x_g : Int) (x_addr : Int) (x_user : Bool) (x_write : Bool) (s4 : (List DShade) × Bool) : Option ((List DLine) × Int × Int) :=
 Option.bind (cond (!s4.2)
  (Option.bind (F_spec_ShadowOf x_h x_g) fun v7 =>
  grd ((0 : Int) ≤ (w64 (Int.tdiv x_addr (8 : Int))) ∧ (w64 (Int.tdiv x_addr (8 : Int))) < (((List.length v7) : Nat) : Int)) (grd ((List.length (([] : List DLine) ++ x_tags) + List.length ([(DLine.mk x_g (w64 (Int.tdiv x_addr (8 : Int))) (DShade.mk ((List.getD v7 (Int.toNat (w64 (Int.tdiv x_addr (8 : Int)))) default).There) ((List.getD v7 (Int.toNat (w64 (Int.tdiv x_addr (8 : Int)))) default).Write) ((List.getD v7 (Int.toNat (w64 (Int.tdiv x_addr (8 : Int)))) default).User) ((List.getD v7 (Int.toNat (w64 (Int.tdiv x_addr (8 : Int)))) default).Page) ((List.getD v7 (Int.toNat (w64 (Int.tdiv x_addr (8 : Int)))) default).Frame) ((List.getD v7 (Int.toNat (w64 (Int.tdiv x_addr (8 : Int)))) default).Ready)))] : List DLine)) * 48 ≤ 2 ^ 47 ∧ List.length (([] : List DLine) ++ x_tags) + List.length ([(DLine.mk x_g (w64 (Int.tdiv x_addr (8 : Int))) (DShade.mk ((List.getD v7 (Int.toNat (w64 (Int.tdiv x_addr (8 : Int)))) default).There) ((List.getD v7 (Int.toNat (w64 (Int.tdiv x_addr (8 : Int)))) default).Write) ((List.getD v7 (Int.toNat (w64 (Int.tdiv x_addr (8 : Int)))) default).User) ((List.getD v7 (Int.toNat (w64 (Int.tdiv x_addr (8 : Int)))) default).Page) ((List.getD v7 (Int.toNat (w64 (Int.tdiv x_addr (8 : Int)))) default).Frame) ((List.getD v7 (Int.toNat (w64 (Int.tdiv x_addr (8 : Int)))) default).Ready)))] : List DLine) ≤ 2 ^ 47) (cond (decide ((6 : Int) < (((List.length ((([] : List DLine) ++ x_tags) ++ ([(DLine.mk x_g (w64 (Int.tdiv x_addr (8 : Int))) (DShade.mk ((List.getD v7 (Int.toNat (w64 (Int.tdiv x_addr (8 : Int)))) default).There) ((List.getD v7 (Int.toNat (w64 (Int.tdiv x_addr (8 : Int)))) default).Write) ((List.getD v7 (Int.toNat (w64 (Int.tdiv x_addr (8 : Int)))) default).User) ((List.getD v7 (Int.toNat (w64 (Int.tdiv x_addr (8 : Int)))) default).Page) ((List.getD v7 (Int.toNat (w64 (Int.tdiv x_addr (8 : Int)))) default).Frame) ((List.getD v7 (Int.toNat (w64 (Int.tdiv x_addr (8 : Int)))) default).Ready)))] : List DLine))) : Nat) : Int)))
   (grd ((0 : Int) ≤ (1 : Int) ∧ (1 : Int) ≤ (((List.length ((([] : List DLine) ++ x_tags) ++ ([(DLine.mk x_g (w64 (Int.tdiv x_addr (8 : Int))) (DShade.mk ((List.getD v7 (Int.toNat (w64 (Int.tdiv x_addr (8 : Int)))) default).There) ((List.getD v7 (Int.toNat (w64 (Int.tdiv x_addr (8 : Int)))) default).Write) ((List.getD v7 (Int.toNat (w64 (Int.tdiv x_addr (8 : Int)))) default).User) ((List.getD v7 (Int.toNat (w64 (Int.tdiv x_addr (8 : Int)))) default).Page) ((List.getD v7 (Int.toNat (w64 (Int.tdiv x_addr (8 : Int)))) default).Frame) ((List.getD v7 (Int.toNat (w64 (Int.tdiv x_addr (8 : Int)))) default).Ready)))] : List DLine))) : Nat) : Int) ∧ (((List.length ((([] : List DLine) ++ x_tags) ++ ([(DLine.mk x_g (w64 (Int.tdiv x_addr (8 : Int))) (DShade.mk ((List.getD v7 (Int.toNat (w64 (Int.tdiv x_addr (8 : Int)))) default).There) ((List.getD v7 (Int.toNat (w64 (Int.tdiv x_addr (8 : Int)))) default).Write) ((List.getD v7 (Int.toNat (w64 (Int.tdiv x_addr (8 : Int)))) default).User) ((List.getD v7 (Int.toNat (w64 (Int.tdiv x_addr (8 : Int)))) default).Page) ((List.getD v7 (Int.toNat (w64 (Int.tdiv x_addr (8 : Int)))) default).Frame) ((List.getD v7 (Int.toNat (w64 (Int.tdiv x_addr (8 : Int)))) default).Ready)))] : List DLine))) : Nat) : Int) ≤ (((List.length ((([] : List DLine) ++ x_tags) ++ ([(DLine.mk x_g (w64 (Int.tdiv x_addr (8 : Int))) (DShade.mk ((List.getD v7 (Int.toNat (w64 (Int.tdiv x_addr (8 : Int)))) default).There) ((List.getD v7 (Int.toNat (w64 (Int.tdiv x_addr (8 : Int)))) default).Write) ((List.getD v7 (Int.toNat (w64 (Int.tdiv x_addr (8 : Int)))) default).User) ((List.getD v7 (Int.toNat (w64 (Int.tdiv x_addr (8 : Int)))) default).Page) ((List.getD v7 (Int.toNat (w64 (Int.tdiv x_addr (8 : Int)))) default).Frame) ((List.getD v7 (Int.toNat (w64 (Int.tdiv x_addr (8 : Int)))) default).Ready)))] : List DLine))) : Nat) : Int)) (some (.go ((List.take (Int.toNat (((List.length ((([] : List DLine) ++ x_tags) ++ ([(DLine.mk x_g (w64 (Int.tdiv x_addr (8 : Int))) (DShade.mk ((List.getD v7 (Int.toNat (w64 (Int.tdiv x_addr (8 : Int)))) default).There) ((List.getD v7 (Int.toNat (w64 (Int.tdiv x_addr (8 : Int)))) default).Write) ((List.getD v7 (Int.toNat (w64 (Int.tdiv x_addr (8 : Int)))) default).User) ((List.getD v7 (Int.toNat (w64 (Int.tdiv x_addr (8 : Int)))) default).Page) ((List.getD v7 (Int.toNat (w64 (Int.tdiv x_addr (8 : Int)))) default).Frame) ((List.getD v7 (Int.toNat (w64 (Int.tdiv x_addr (8 : Int)))) default).Ready)))] : List DLine))) : Nat) : Int) - Int.toNat (1 : Int)) (List.drop 1 ((([] : List DLine) ++ x_tags) ++ ([(DLine.mk x_g (w64 (Int.tdiv x_addr (8 : Int))) (DShade.mk ((List.getD v7 (Int.toNat (w64 (Int.tdiv x_addr (8 : Int)))) default).There) ((List.getD v7 (Int.toNat (w64 (Int.tdiv x_addr (8 : Int)))) default).Write) ((List.getD v7 (Int.toNat (w64 (Int.tdiv x_addr (8 : Int)))) default).User) ((List.getD v7 (Int.toNat (w64 (Int.tdiv x_addr (8 : Int)))) default).Page) ((List.getD v7 (Int.toNat (w64 (Int.tdiv x_addr (8 : Int)))) default).Frame) ((List.getD v7 (Int.toNat (w64 (Int.tdiv x_addr (8 : Int)))) default).Ready)))] : List DLine)))), v7))))
   (some (.go (((([] : List DLine) ++ x_tags) ++ ([(DLine.mk x_g (w64 (Int.tdiv x_addr (8 : Int))) (DShade.mk ((List.getD v7 (Int.toNat (w64 (Int.tdiv x_addr (8 : Int)))) default).There) ((List.getD v7 (Int.toNat (w64 (Int.tdiv x_addr (8 : Int)))) default).Write) ((List.getD v7 (Int.toNat (w64 (Int.tdiv x_addr (8 : Int)))) default).User) ((List.getD v7 (Int.toNat (w64 (Int.tdiv x_addr (8 : Int)))) default).Page) ((List.getD v7 (Int.toNat (w64 (Int.tdiv x_addr (8 : Int)))) default).Frame) ((List.getD v7 (Int.toNat (w64 (Int.tdiv x_addr (8 : Int)))) default).Ready)))] : List DLine)), v7))))))
  (some (.go ((([] : List DLine) ++ x_tags), s4.1)))) fun j5 =>
  JO.run j5 (F_spec_TagWalk_j5 x_addr x_user x_write)
noncomputable def F_spec_TagWalk_j9 (s8 : (List DShade) × Bool × Int) (s9 : (List DShade) × Bool) : Option (LO ((List DShade) × Bool × Int) (JO ((List DShade) × Bool) ((List DLine) × Int × Int))) :=
 some (.next (s9.1, s9.2, (w64 (s8.2.2 + (1 : Int)))))
noncomputable def F_spec_TagWalk_l8 (x_tags : List DLine) (x_g : Int) (x_addr : Int) (s8 : (List DShade) × Bool × Int) : Option (LO ((List DShade) × Bool × Int) (JO ((List DShade) × Bool) ((List DLine) × Int × Int))) :=
 cond (decide (s8.2.2 < (((List.length x_tags) : Nat) : Int)))
  (Option.bind (grd ((0 : Int) ≤ s8.2.2 ∧ s8.2.2 < ((List.length x_tags : Nat) : Int)) (cond (decide (((List.getD x_tags (Int.toNat s8.2.2) default).Tag) = x_g))
   (grd ((0 : Int) ≤ s8.2.2 ∧ s8.2.2 < ((List.length x_tags : Nat) : Int)) (cond (decide (((List.getD x_tags (Int.toNat s8.2.2) default).At) = (w64 (Int.tdiv x_addr (8 : Int)))))
    (grd ((0 : Int) ≤ s8.2.2 ∧ s8.2.2 < ((List.length x_tags : Nat) : Int)) (grd ((0 : Int) ≤ (w64 (Int.tdiv x_addr (8 : Int))) ∧ (w64 (Int.tdiv x_addr (8 : Int))) < (((List.length s8.1) : Nat) : Int)) (some (.go ((List.set s8.1 (Int.toNat (w64 (Int.tdiv x_addr (8 : Int)))) (DShade.mk (((List.getD x_tags (Int.toNat s8.2.2) default).What).There) (((List.getD x_tags (Int.toNat s8.2.2) default).What).Write) (((List.getD x_tags (Int.toNat s8.2.2) default).What).User) (((List.getD x_tags (Int.toNat s8.2.2) default).What).Page) (((List.getD x_tags (Int.toNat s8.2.2) default).What).Frame) (((List.getD x_tags (Int.toNat s8.2.2) default).What).Ready))), true)))))
    (some (.go (s8.1, s8.2.1)))))
   (some (.go (s8.1, s8.2.1))))) fun j9 =>
   JO.run j9 (F_spec_TagWalk_j9 s8))
  (some (.ret (.go (s8.1, s8.2.1))))
noncomputable def F_spec_TagWalk (x_h : DHost) (x_tags : List DLine) (x_g : Int) (x_addr : Int) (x_user : Bool) (x_write : Bool) : Option ((List DLine) × Int × Int) :=
 Option.bind (F_spec_TagsOk x_h x_tags) fun v1 =>
 cond (!v1)
  (some (([] : List DLine), (-1 : Int), (-1 : Int)))
  (Option.bind (F_spec_l4Live x_h x_g) fun v2 =>
  cond (!v2)
   (some (([] : List DLine), (-1 : Int), (-1 : Int)))
   (Option.bind (F_spec_l1In x_addr (0 : Int) (63 : Int)) fun v3 =>
   cond (!v3)
    (some (([] : List DLine), (-1 : Int), (-1 : Int)))
    (grd ((List.length ([] : List DLine) + List.length x_tags) * 48 ≤ 2 ^ 47 ∧ List.length ([] : List DLine) + List.length x_tags ≤ 2 ^ 47) (Option.bind (Option.bind (iter (F_spec_TagWalk_l8 x_tags x_g x_addr) ((List.replicate (Int.toNat (8 : Int)) (DShade.mk false false false (0 : Int) (0 : Int) false)), false, (0 : Int))) LO.val) fun j4 =>
     JO.run j4 (F_spec_TagWalk_j4 x_h x_tags x_g x_addr x_user x_write)))))
theorem spec_TagWalk_fn {x_h : DHost} {x_tags : List DLine} {x_g : Int} {x_addr : Int} {x_user : Bool} {x_write : Bool} {R_ : (List DLine) × Int × Int} (hh : F_spec_TagWalk x_h x_tags x_g x_addr x_user x_write = some R_) : Fn Try.prog 16 [.agg (B_26 x_h), bo C_47 x_tags, .int .i64 x_g, .int .i64 x_addr, .bool x_user, .bool x_write] (.tup [bo C_47 R_.1, .int .i64 R_.2.1, .int .i64 R_.2.2]) := by
 let z8 : EH := (0, some (rB26 x_h)); let z9 := (1, bo C_47 x_tags); let z10 : EH := (1, some ⟨47, []⟩); let z11 : EV := (12, .sref 1 [] 0 0 8); let z12 : EV := (15, .sref 1 [] 0 (List.length (([] : List DLine) ++ x_tags)) 8); let z13 : EV := (15, .sref 1 [] 0 0 8); let z14 : EV := (15, .sref 2 [] 0 (List.length (([] : List DLine) ++ x_tags)) 8); let z15 := (2, ii x_g); let z16 := (3, ii x_addr); let z17 := (4, bb x_user); let z18 := (5, bb x_write); let z19 := (6, pp 0); let z20 := (67, ii (w64 (Int.tdiv x_addr (8 : Int)))); let z1 := DShade.mk false false false (0 : Int) (0 : Int) false; let z21 : EV := (16, .sref 3 [] 0 (List.length (List.replicate (Int.toNat (8 : Int)) z1)) 6)
 unfold F_spec_TagWalk at hh
 refine Fn.start low_spec_TagWalk [0, 1, 2, 3, 4, 5] (E := sp 107 [(0, .agg (B_26 x_h)), z9, z15, z16, z17, z18]) kr (v := .tup [bo C_47 R_.1, ii R_.2.1, ii R_.2.2]) (Hr := []) (k := 0) kr (sy [1, 2, 3, 4, 5, 6] [0] (sp 107 [z9, z15, z16, z17, z18, z19]) [z8] 1 (sy [1, 2, 3, 4, 5, 6, 15] [0, 1] (sp 107 [z9, z15, z16, z17, z18, z19, z13]) [z8, z10] 2 (Aw.seq (Aw.sreg [1, 2, 3, 4, 5, 6, 15, 36] [0, 1] (yj 2  (sp 107 [z9, z15, z16, z17, z18, z19, z13, (22, .agg (B_26 x_h)), (23, bo C_47 x_tags)]) [z8, z10] 2 ?_)))))
 obtain ⟨v1, hv1, hh⟩ := bind_some hh
 refine ys (.call 11 [(.t 22), (.t 23)]) (some 24) (op_call (r := bb v1) (v := bb v1) (Hr := []) (n' := 2) (spec_TagsOk_fn hv1) (clz_v (vs := [.agg (B_26 x_h), bo C_47 x_tags]) kr (clz_c (clo_same (clean_agg (cl_B_26 _))) (clz_c (clo_same (clean_bor (cleans_fl cl_C_47))) clz_n))) rfl rfl kr ?_)
 refine yu 2 [(24, bb v1), (25, bb (!v1)), (26, bb (!v1))] [z8, z10] 2 ?_
 rcases cond_some hh with ⟨hb, hh⟩ | ⟨hb, hh⟩
 · refine yb 25 hb (yb 26 hb (yt (sp 107 [z9, z15, z16, z17, z18, z19, z13, (36, bb true)]) [z8, z10] 2 (cT rfl (sy [12, 13, 14] [1] (sp 107 [z11, (13, ii (-1)), (14, ii (-1))]) [z10] 2 (Aw.ret (then_r ?_))))))
   rw [some_some hh]
   exact gives (r' := .tup [.sref 1 [] 0 0 8, ii (-1), ii (-1)]) kr (Ent.clov (.tup _ _ (clz_c (clo_own (c := C_47) (xs := ([] : List DLine)) (e := 47) eqn len_C_47 no_C_47 cl_C_47 kr) (cz1 (cz1 clz_n)))))
 refine yb 25 hb (yb 26 hb (yu 2 [(25, bb false), (26, bb false), (27, .agg (B_26 x_h)), (28, ii x_g)] [z8, z10] 2 ?_))
 obtain ⟨v2, hv2, hh⟩ := bind_some hh
 refine yg (.call 37 [(.t 27), (.t 28)]) (some 29) 26 false (op_call (r := bb v2) (v := bb v2) (Hr := []) (n' := 2) (spec_l4Live_fn hv2) (clz_v (vs := [.agg (B_26 x_h), ii x_g]) kr (clz_c (clo_same (clean_agg (cl_B_26 _))) (cz1 clz_n))) rfl rfl kr ?_)
 refine yu 3 [(29, bb v2), (30, bb (!v2)), (31, bb (!v2)), (32, bb (!v2))] [z8, z10] 2 ?_
 rcases cond_some hh with ⟨hb, hh⟩ | ⟨hb, hh⟩
 · refine yb 30 hb (yb 31 hb (yb 32 hb (yt (sp 107 [z9, z15, z16, z17, z18, z19, z13, (36, bb true)]) [z8, z10] 2 (cT rfl (sy [12, 13, 14] [1] (sp 107 [z11, (13, ii (-1)), (14, ii (-1))]) [z10] 2 (Aw.ret (then_r ?_)))))))
   rw [some_some hh]
   exact gives (r' := .tup [.sref 1 [] 0 0 8, ii (-1), ii (-1)]) kr (Ent.clov (.tup _ _ (clz_c (clo_own (c := C_47) (xs := ([] : List DLine)) (e := 47) eqn len_C_47 no_C_47 cl_C_47 kr) (cz1 (cz1 clz_n)))))
 refine yb 30 hb (yb 31 hb (yb 32 hb (yu 1 [(30, bb false), (31, bb false), (32, bb false), (33, ii x_addr)] [z8, z10] 2 ?_)))
 obtain ⟨v3, hv3, hh⟩ := bind_some hh
 refine yg (.call 38 [(.t 33), (.c (ii 0)), (.c (ii 63))]) (some 34) 32 false (oc (spec_l1In_fn hv3) ?_)
 refine yt (sp 107 [z9, z15, z16, z17, z18, z19, z13, (36, bb (!v3))]) [z8, z10] 2 ?_
 rcases cond_some hh with ⟨hb, hh⟩ | ⟨hb, hh⟩
 · refine cT hb (sy [12, 13, 14] [1] (sp 107 [z11, (13, ii (-1)), (14, ii (-1))]) [z10] 2 (Aw.ret (then_r ?_)))
   rw [some_some hh]
   exact gives (r' := .tup [.sref 1 [] 0 0 8, ii (-1), ii (-1)]) kr (Ent.clov (.tup _ _ (clz_c (clo_own (c := C_47) (xs := ([] : List DLine)) (e := 47) eqn len_C_47 no_C_47 cl_C_47 kr) (cz1 (cz1 clz_n)))))
 refine cF hb (Aw.xskip (fun _ _ _ hq => then_m hq) (Aw.sreg [1, 2, 3, 4, 5, 6, 15] [0, 2] (yj 2  (sp 107 [z9, z15, z16, z17, z18, z19, z13, (36, bb (!v3)), (38, .sref 1 [] 0 0 8), (39, bo C_47 x_tags)]) [z8, z10] 2 ?_)))
 obtain ⟨hg164, hh⟩ := grd_some hh
 refine ys (.app 47 8 48 zc2 (.t 38) (.t 39)) (some 40) (op_app (c := C_47) (xs := ([] : List DLine)) (ys := x_tags) (r := 1) (k := 0) (π := []) eqn len_C_47 (rpv kr (rp_bor (c := C_47) (xs := x_tags) len_C_47)) kr kr hg164 ?_)
 let q1 : Root := (rC47 (([] : List DLine) ++ x_tags)); let z22 := (1, some q1)
 refine yt (sp 107 [z9, z15, z16, z17, z18, z19, z14]) [z8, (2, some q1)] 3 (Aw.sreg [1, 2, 3, 4, 5, 6, 15, 16] [0, 2, 3] (ys (.mk 45 6 32 [(bb false), (bb false), (bb false), (ii 0), (ii 0), (bb false)] (.c (ii 8))) (some 41) (op_mk (c := C_45) (d := z1) (k := (8 : Int)) kr dd kr ?_)))
 let q2 : Root := (rC45 (List.replicate (Int.toNat (8 : Int)) z1))
 refine yt (sp 107 [z9, z15, z16, z17, z18, z19, z14, z21]) [z8, (2, some q1), (3, some q2)] 4 (sy [1, 2, 3, 4, 5, 6, 15, 16, 17] [0, 2, 3] (sp 107 [z9, z15, z16, z17, z18, z19, z14, z21, (17, bb false)]) [z8, (2, some q1), (3, some q2)] 4 ?_)
 obtain ⟨j4, hh, hk4⟩ := bind_some hh
 refine Aw.join (S := (List DShade) × Bool) (fun s4 => sp 107 [(2, ii x_g), (3, ii x_addr), (4, bb x_user), (5, bb x_write), (6, pp 0), (15, .sref 1 [] 0 (List.length (([] : List DLine) ++ x_tags)) 8), (16, .sref 2 [] 0 (List.length s4.1) 6), (17, bb s4.2)]) (fun s4 => [(0, some (rB26 x_h)), (1, some (rC47 (([] : List DLine) ++ x_tags))), (2, some (rC45 s4.1))]) 3 (fun s4 => F_spec_TagWalk_j4 x_h x_tags x_g x_addr x_user x_write s4 = some R_) ?_ ?_
 · intro s4 hh
   let z23 : EV := (16, .sref 2 [] 0 (List.length s4.1) 6); let z24 : EH := (2, some (rC45 s4.1))
   unfold F_spec_TagWalk_j4 at hh
   obtain ⟨j5, hh, hk5⟩ := bind_some hh
   refine Aw.join (S := (List DLine) × (List DShade)) (fun s5 => sp 107 [(3, ii x_addr), (4, bb x_user), (5, bb x_write), (15, bo C_47 s5.1), (16, .sref 1 [] 0 (List.length s5.2) 6)]) (fun s5 => [(1, some (rC45 s5.2))]) 2 (fun s5 => F_spec_TagWalk_j5 x_addr x_user x_write s5 = some R_) ?_ ?_
   · intro s5 hh
     unfold F_spec_TagWalk_j5 at hh
     refine Aw.sreg [15, 19, 20] [] (yj 4  (sp 107 [z16, z17, z18, (15, bo C_47 s5.1), (16, .sref 1 [] 0 (List.length s5.2) 6), (97, .sref 1 [] 0 (List.length s5.2) 6), (98, ii x_addr), (99, bb x_user), (100, bb x_write)]) [(1, some (rC45 s5.2))] 2 ?_)
     obtain ⟨v6, hv6, hh⟩ := bind_some hh
     refine ys (.call 52 [(.t 97), (.t 98), (.t 99), (.t 100)]) (some 101) (op_call (r := .tup [ii v6.1, ii v6.2]) (v := .tup [ii v6.1, ii v6.2]) (Hr := []) (n' := 2) (spec_l5Place_fn hv6) (clz_v (vs := [.sref 1 [] 0 (List.length s5.2) 6, ii x_addr, bb x_user, bb x_write]) kr (clz_c (clo_own (c := C_45) (xs := s5.2) (e := 45) eqn len_C_45 no_C_45 cl_C_45 kr) (cz1 (cz1 (cz1 clz_n))))) rfl rfl kr ?_)
     refine yt (sp 107 [(15, bo C_47 s5.1), (19, ii v6.1), (20, ii v6.2)]) [] 2 (sy [12, 13, 14] [] (sp 107 [(12, bo C_47 s5.1), (13, ii v6.1), (14, ii v6.2)]) [] 2 (Aw.ret ?_))
     rw [some_some hh]
     exact gives (r' := .tup [bo C_47 s5.1, ii v6.1, ii v6.2]) kr (Ent.clov (.tup _ _ (clz_c (clo_same (clean_bor (cleans_fl cl_C_47))) (cz1 (cz1 clz_n)))))
   intro Q5 hN5 hR5 hE5
   refine sy [2, 3, 4, 5, 6, 15, 16, 75] [0, 1, 2] (sp 107 [z15, z16, z17, z18, z19, z12, z23, (75, bb (!s4.2))]) [z8, z22, z24] 3 ?_
   rcases cond_some hh with ⟨hb, hh⟩ | ⟨hb, hh⟩
   · refine cT hb (Aw.sreg [2, 3, 4, 5, 15, 16] [1, 3] (yu 2 [(76, .agg (B_26 x_h)), (77, ii x_g)] [z8, z22, z24] 3 ?_))
     obtain ⟨v7, hv7, hh⟩ := bind_some hh
     let z25 : EV := (16, .sref 3 [] 0 (List.length v7) 6); let z26 : EH := (3, some (rC45 v7)); let z2 := List.getD v7 (Int.toNat (w64 (Int.tdiv x_addr (8 : Int)))) default; let z4 := DLine.mk x_g (w64 (Int.tdiv x_addr (8 : Int))) z2; let z27 : EV := (15, .sref 5 [] 0 (List.length ((([] : List DLine) ++ x_tags) ++ ([z4] : List DLine))) 8); let z28 := (93, bb (decide ((6 : Int) < (((List.length ((([] : List DLine) ++ x_tags) ++ ([z4] : List DLine))) : Nat) : Int)))); let z29 : EV := (94, .sref 5 [] 0 (List.length ((([] : List DLine) ++ x_tags) ++ ([z4] : List DLine))) 8); let z6 := List.drop 1 ((([] : List DLine) ++ x_tags) ++ ([z4] : List DLine)); let z7 := List.take (Int.toNat (((List.length ((([] : List DLine) ++ x_tags) ++ ([z4] : List DLine))) : Nat) : Int) - Int.toNat (1 : Int)) z6
     refine ys (.call 39 [(.t 76), (.t 77)]) (some 78) (op_call (r := .own 45 6 (List.length v7) (fl C_45 v7)) (v := .sref 3 [] 0 (List.length v7) 6) (Hr := [z26]) (n' := 4) (spec_ShadowOf_fn hv7) (clz_v (vs := [.agg (B_26 x_h), ii x_g]) kr (clz_c (clo_same (clean_agg (cl_B_26 _))) (cz1 clz_n))) nrr nrr kr ?_)
     refine yt (sp 107 [z15, z16, z17, z18, z12, z25]) [z22, z26] 4 (Aw.sreg [3, 4, 5, 15, 16] [3, 5] ?_)
     obtain ⟨hg91, hh⟩ := grd_some hh
     refine yjc 8 [(8 : Int) ≠ 0, (8 : Int) ≠ 0, (0 : Int) ≤ (w64 (Int.tdiv x_addr (8 : Int))) ∧ (w64 (Int.tdiv x_addr (8 : Int))) < (((List.length v7) : Nat) : Int)] (sp 107 [z15, z16, z17, z18, z12, z25, (79, .sref 1 [] 0 (List.length (([] : List DLine) ++ x_tags)) 8), (80, ii x_g), (81, ii x_addr), (82, ii (w64 (Int.tdiv x_addr (8 : Int)))), (83, .sref 3 [] 0 (List.length v7) 6), (84, ii x_addr), (85, ii (w64 (Int.tdiv x_addr (8 : Int)))), (86, .ptr 3 [] (0 + (Int.toNat (w64 (Int.tdiv x_addr (8 : Int)))) * 6))]) [z22, z26] 4 (.cons dd (.cons dd (.cons hg91 .nil))) (ys (.load true 6 (.t 86)) (some 87) (op_loadA (c := C_45) (xs := v7) (e := 45) (r := 3) (π := []) (o := 0 + (Int.toNat (w64 (Int.tdiv x_addr (8 : Int)))) * 6) (i := (Int.toNat (w64 (Int.tdiv x_addr (8 : Int))))) (off := 0) (v := .agg [bb (z2.There), bb (z2.Write), bb (z2.User), ii (z2.Page), ii (z2.Frame), bb (z2.Ready)]) len_C_45 kr kr ltn ltn dd kr ?_))
     refine yu 2 [(87, .agg [bb (z2.There), bb (z2.Write), bb (z2.User), ii (z2.Page), ii (z2.Frame), bb (z2.Ready)]), (88, .agg [ii x_g, ii (w64 (Int.tdiv x_addr (8 : Int))), bb (z2.There), bb (z2.Write), bb (z2.User), ii (z2.Page), ii (z2.Frame), bb (z2.Ready)]), (89, .sref 4 [] 0 1 8)] [(4, some ⟨47, [ii x_g, ii (w64 (Int.tdiv x_addr (8 : Int))), bb (z2.There), bb (z2.Write), bb (z2.User), ii (z2.Page), ii (z2.Frame), bb (z2.Ready)]⟩), z22, z26] 5 ?_
     obtain ⟨hg90, hh⟩ := grd_some hh
     refine ys (.app 47 8 48 zc2 (.t 79) (.t 89)) (some 90) (op_app (c := C_47) (xs := (([] : List DLine) ++ x_tags)) (ys := ([z4] : List DLine)) (r := 1) (k := (List.length (([] : List DLine) ++ x_tags))) (π := []) eqn len_C_47 kr kr kr hg90 ?_)
     let q3 : Root := (rC47 ((([] : List DLine) ++ x_tags) ++ ([z4] : List DLine)))
     refine yt (sp 107 [z16, z17, z18, z27, z25]) [z26, (5, some q3)] 6 (sy [3, 4, 5, 15, 16, 93] [3, 5] (sp 107 [z16, z17, z18, z27, z25, z28]) [z26, (5, some q3)] 6 ?_)
     rcases cond_sf hh with ⟨hb, hh⟩ | ⟨hb, hh⟩
     · refine cF hb (Aw.skip ?_)
       obtain rfl := some_some hh
       exact hN5 (((([] : List DLine) ++ x_tags) ++ ([z4] : List DLine)), v7) _ _ _ hk5 (Ent.trans (el [none, some 3] (rens_sp kr (ri (rb (rb (ro nr_C_47 (rs (.sref 3 [] 0 (List.length v7) 6) rl_n)))))) (hn nr_C_45 hs_nil)) (Ent.freeze (R := 5) (cs := (fl C_47 ((([] : List DLine) ++ x_tags) ++ ([z4] : List DLine)))) (e := 47) (xs2 := sp 107 [z16, z17, z18, (15, bo C_47 ((([] : List DLine) ++ x_tags) ++ ([z4] : List DLine))), z25, z28]) (H2 := [z26]) kr (noOwn_fl no_C_47) (frs_sp kr (fl_c (u := ii x_addr) kr (.same _) (fl_c (u := bb x_user) kr (.same _) (fl_c (u := bb x_write) kr (.same _) (fl_c (u := .sref 5 [] 0 (List.length ((([] : List DLine) ++ x_tags) ++ ([z4] : List DLine))) 8) kr (fr_all len_C_47 eqn) (fl_c (u := .sref 3 [] 0 (List.length v7) 6) kr (.same _) (fl_c (u := bb (decide ((6 : Int) < (((List.length ((([] : List DLine) ++ x_tags) ++ ([z4] : List DLine))) : Nat) : Int)))) kr (.same _) fl_n))))))) (hf_c (t := (rC45 v7)) rfl kr rfl frs_same hf_n)))
     refine cT hb (Aw.oreg (yu 1 [z29] [z26, (5, some q3)] 6 ?_))
     obtain ⟨hg89, hh⟩ := grd_some hh
     refine ys (.slc 8 (.t 94) (some (.c (ii 1))) none) (some 95) (op_slo (r := 5) (π := []) (o := 0) (k := (List.length ((([] : List DLine) ++ x_tags) ++ ([z4] : List DLine)))) (sz := 8) (l := (1 : Int)) (h := (((List.length ((([] : List DLine) ++ x_tags) ++ ([z4] : List DLine))) : Nat) : Int)) kr kr kr hg89 ?_)
     refine ye (sp 107 [z16, z17, z18, (15, .sref 5 [] 8 (Int.toNat (((List.length ((([] : List DLine) ++ x_tags) ++ ([z4] : List DLine))) : Nat) : Int) - Int.toNat (1 : Int)) 8), z25, z28, z29, (95, .sref 5 [] 8 (Int.toNat (((List.length ((([] : List DLine) ++ x_tags) ++ ([z4] : List DLine))) : Nat) : Int) - Int.toNat (1 : Int)) 8)]) [z26, (5, some q3)] 6 ?_
     obtain rfl := some_some hh
     exact hN5 (z7, v7) _ _ _ hk5 (Ent.trans (el [none, some 3] (rens_sp kr (ri (rb (rb (ro nr_C_47 (rs (.sref 3 [] 0 (List.length v7) 6) rl_n)))))) (hn nr_C_45 hs_nil)) (Ent.freeze (R := 5) (cs := (fl C_47 ((([] : List DLine) ++ x_tags) ++ ([z4] : List DLine)))) (e := 47) (xs2 := sp 107 [z16, z17, z18, (15, bo C_47 z7), z25, z28, (94, bo C_47 ((([] : List DLine) ++ x_tags) ++ ([z4] : List DLine))), (95, bo C_47 z7)]) (H2 := [z26]) kr (noOwn_fl no_C_47) (frs_sp kr (fl_c (u := ii x_addr) kr (.same _) (fl_c (u := bb x_user) kr (.same _) (fl_c (u := bb x_write) kr (.same _) (fl_c (u := .sref 5 [] 8 (Int.toNat (((List.length ((([] : List DLine) ++ x_tags) ++ ([z4] : List DLine))) : Nat) : Int) - Int.toNat (1 : Int)) 8) kr (fr_row (i := 1) len_C_47 ltn ltn rfl eqn) (fl_c (u := .sref 3 [] 0 (List.length v7) 6) kr (.same _) (fl_c (u := bb (decide ((6 : Int) < (((List.length ((([] : List DLine) ++ x_tags) ++ ([z4] : List DLine))) : Nat) : Int)))) kr (.same _) (fl_c (u := .sref 5 [] 0 (List.length ((([] : List DLine) ++ x_tags) ++ ([z4] : List DLine))) 8) kr (fr_all len_C_47 eqn) (fl_c (u := .sref 5 [] 8 (Int.toNat (((List.length ((([] : List DLine) ++ x_tags) ++ ([z4] : List DLine))) : Nat) : Int) - Int.toNat (1 : Int)) 8) kr (fr_row (i := 1) len_C_47 ltn ltn rfl eqn) fl_n))))))))) (hf_c (t := (rC45 v7)) rfl kr rfl frs_same hf_n)))
   refine cF hb (Aw.skip ?_)
   obtain rfl := some_some hh
   exact hN5 ((([] : List DLine) ++ x_tags), s4.1) _ _ _ hk5 (Ent.trans (el [none, some 2] (rens_sp kr (ri (rb (rb (ro nr_C_47 (rs (.sref 2 [] 0 (List.length s4.1) 6) rl_n)))))) (hn nr_C_45 hs_nil)) (Ent.freeze (R := 1) (cs := (fl C_47 (([] : List DLine) ++ x_tags))) (e := 47) (xs2 := sp 107 [z15, z16, z17, z18, z19, (15, bo C_47 (([] : List DLine) ++ x_tags)), z23, (75, bb (!s4.2))]) (H2 := [z8, z24]) kr (noOwn_fl no_C_47) (frs_sp kr (fl_c (u := ii x_g) kr (.same _) (fl_c (u := ii x_addr) kr (.same _) (fl_c (u := bb x_user) kr (.same _) (fl_c (u := bb x_write) kr (.same _) (fl_c (u := pp 0) kr (.same _) (fl_c (u := .sref 1 [] 0 (List.length (([] : List DLine) ++ x_tags)) 8) kr (fr_all len_C_47 eqn) (fl_c (u := .sref 2 [] 0 (List.length s4.1) 6) kr (.same _) (fl_c (u := bb (!s4.2)) kr (.same _) fl_n))))))))) (hf_c (t := (rB26 x_h)) rfl kr rfl (frs_c (.same _) (frs_c (.same _) frs_n)) (hf_c (t := (rC45 s4.1)) rfl kr rfl frs_same hf_n))))
 intro Q4 hN4 hR4 hE4
 refine sy [1, 2, 3, 4, 5, 6, 15, 16, 17, 18] [0, 2, 3] (sp 107 [z9, z15, z16, z17, z18, z19, z14, z21, (17, bb false), (18, ii 0)]) [z8, (2, some q1), (3, some q2)] 4 (Aw.block ?_)
 obtain ⟨o8, hi8, hk8⟩ := bind_some hh
 refine Aw.iter (fun (s8 : (List DShade) × Bool × Int) => sp 107 [(1, bo C_47 x_tags), (2, ii x_g), (3, ii x_addr), (4, bb x_user), (5, bb x_write), (6, pp 0), (15, .sref 1 [] 0 (List.length (([] : List DLine) ++ x_tags)) 8), (16, .sref 2 [] 0 (List.length s8.1) 6), (17, bb s8.2.1), (18, ii s8.2.2)]) (fun (s8 : (List DShade) × Bool × Int) => [(0, some (rB26 x_h)), (1, some (rC47 (([] : List DLine) ++ x_tags))), (2, some (rC45 s8.1))]) 3 hi8 (el [some 0, some 2, some 3] (rens_sp kr (ro nr_C_47 (ri (ri (rb (rb (rp 0 (rs (.sref 2 [] 0 (List.length (([] : List DLine) ++ x_tags)) 8) (rs (.sref 3 [] 0 (List.length (List.replicate (Int.toNat (8 : Int)) (DShade.mk false false false (0 : Int) (0 : Int) false))) 6) (rb (ri rl_n))))))))))) (hq (rB26 x_h) (rens_same (nr_B_26 _)) (hn nr_C_47 (hn nr_C_45 hs_nil)))) ?_
 intro s8 u8 Q8 hh hN8 hX8 hR8
 let z30 : EV := (16, .sref 2 [] 0 (List.length s8.1) 6); let z31 := (17, bb s8.2.1); let z32 := (18, ii s8.2.2); let z33 : EH := (2, some (rC45 s8.1)); let z34 := (45, bb (decide (s8.2.2 < (((List.length x_tags) : Nat) : Int)))); let z35 : EV := (65, .sref 2 [] 0 (List.length s8.1) 6); let z36 : EV := (70, .bptr (fl C_47 x_tags) (Int.toNat s8.2.2 * 8)); let z37 : EV := (71, .bptr (fl C_47 x_tags) (Int.toNat s8.2.2 * 8 + 2)); let z3 := List.getD x_tags (Int.toNat s8.2.2) default; let z38 := (64, bb (decide ((z3.At) = (w64 (Int.tdiv x_addr (8 : Int)))))); let z5 := List.set s8.1 (Int.toNat (w64 (Int.tdiv x_addr (8 : Int)))) (z3.What)
 unfold F_spec_TagWalk_l8 at hh
 refine Aw.seq (sy [1, 2, 3, 4, 5, 6, 15, 16, 17, 18, 45] [0, 1, 2] (sp 107 [z9, z15, z16, z17, z18, z19, z12, z30, z31, z32, z34]) [z8, z22, z33] 3 ?_)
 rcases cond_sf hh with ⟨hb, hh⟩ | ⟨hb, hh⟩
 · refine cF hb (Aw.exit (then_x (hX8 _ _ _ _ _ (some_some hh) ?_)))
   intro hout
   rw [hout] at hk8
   refine blk_x ?_
   obtain rfl := some_some hk8
   exact hN4 (s8.1, s8.2.1) _ _ _ hk4 (el [some 0, some 1, some 2] (rens_sp kr (ri (ri (rb (rb (rp 0 (rs (.sref 1 [] 0 (List.length (([] : List DLine) ++ x_tags)) 8) (rs (.sref 2 [] 0 (List.length s8.1) 6) (rb rl_n))))))))) (hq (rB26 x_h) (rens_same (nr_B_26 _)) (hn nr_C_47 (hn nr_C_45 hs_nil))))
 refine cT hb (Aw.xskip (fun _ _ _ hq => then_m hq) ?_)
 obtain ⟨j9, hh, hk9⟩ := bind_some hh
 refine Aw.join (S := (List DShade) × Bool) (fun s9 => sp 107 [(1, bo C_47 x_tags), (2, ii x_g), (3, ii x_addr), (4, bb x_user), (5, bb x_write), (6, pp 0), (15, .sref 1 [] 0 (List.length (([] : List DLine) ++ x_tags)) 8), (16, .sref 2 [] 0 (List.length s9.1) 6), (17, bb s9.2), (18, ii s8.2.2)]) (fun s9 => [(0, some (rB26 x_h)), (1, some (rC47 (([] : List DLine) ++ x_tags))), (2, some (rC45 s9.1))]) 3 (fun s9 => F_spec_TagWalk_j9 s8 s9 = some u8) ?_ ?_
 · intro s9 hh
   unfold F_spec_TagWalk_j9 at hh
   exact Aw.oreg (ye (sp 107 [z9, z15, z16, z17, z18, z19, z12, (16, .sref 2 [] 0 (List.length s9.1) 6), (17, bb s9.2), (18, ii (w64 (s8.2.2 + (1 : Int)))), (46, ii s8.2.2), (47, ii (w64 (s8.2.2 + (1 : Int))))]) [z8, z22, (2, some (rC45 s9.1))] 3 (hN8 (s9.1, s9.2, (w64 (s8.2.2 + (1 : Int)))) _ _ _ (some_some hh) (el [some 0, some 1, some 2] (rens_sp kr (ro nr_C_47 (ri (ri (rb (rb (rp 0 (rs (.sref 1 [] 0 (List.length (([] : List DLine) ++ x_tags)) 8) (rs (.sref 2 [] 0 (List.length s9.1) 6) (rb (ri rl_n))))))))))) (hq (rB26 x_h) (rens_same (nr_B_26 _)) (hn nr_C_47 (hn nr_C_45 hs_nil))))))
 intro Q9 hN9 hR9 hE9
 refine Aw.block (Aw.sreg [1, 2, 3, 4, 5, 6, 15, 16, 17, 18, 64] [0, 1, 2] (yj 2  (sp 107 [z9, z15, z16, z17, z18, z19, z12, z30, z31, z32, z34, (48, bo C_47 x_tags), (49, ii s8.2.2)]) [z8, z22, z33] 3 ?_))
 obtain ⟨hg158, hh⟩ := grd_some hh
 refine ys (.iadr 8 (.t 48) (.t 49)) (some 50) (op_iadr (kd := .i64) (c := C_47) (xs := x_tags) len_C_47 dd kr kr hg158 ?_)
 refine yu 1 [(50, .bptr (fl C_47 x_tags) (Int.toNat s8.2.2 * 8)), (51, .bptr (fl C_47 x_tags) (Int.toNat s8.2.2 * 8 + 0))] [z8, z22, z33] 3 (ys (.load false 1 (.t 51)) (some 52) (op_loadb (c := C_47) (xs := x_tags) (o := Int.toNat s8.2.2 * 8 + 0) (i := (Int.toNat s8.2.2)) (off := 0) (v := ii (z3.Tag)) len_C_47 kr ltn ltn dd kr ?_))
 refine yu 3 [(52, ii (z3.Tag)), (53, ii x_g), (54, bb (decide ((z3.Tag) = x_g))), (55, bb (decide ((z3.Tag) = x_g)))] [z8, z22, z33] 3 ?_
 rcases cond_sf hh with ⟨hb, hh⟩ | ⟨hb, hh⟩
 · refine yb 54 hb (yb 55 hb (yt (sp 107 [z9, z15, z16, z17, z18, z19, z12, z30, z31, z32, (64, bb false)]) [z8, z22, z33] 3 (cF rfl (Aw.skip (blk_m ?_)))))
   obtain rfl := some_some hh
   exact hN9 (s8.1, s8.2.1) _ _ _ hk9 (el [some 0, some 1, some 2] (rens_sp kr (ro nr_C_47 (ri (ri (rb (rb (rp 0 (rs (.sref 1 [] 0 (List.length (([] : List DLine) ++ x_tags)) 8) (rs (.sref 2 [] 0 (List.length s8.1) 6) (rb (ri rl_n))))))))))) (hq (rB26 x_h) (rens_same (nr_B_26 _)) (hn nr_C_47 (hn nr_C_45 hs_nil))))
 refine yb 54 hb (yb 55 hb (yu 2 [(54, bb true), (55, bb true), (56, bo C_47 x_tags), (57, ii s8.2.2)] [z8, z22, z33] 3 ?_))
 obtain ⟨hg159, hh⟩ := grd_some hh
 refine yg (.iadr 8 (.t 56) (.t 57)) (some 58) 55 true (op_iadr (kd := .i64) (c := C_47) (xs := x_tags) len_C_47 dd kr kr hg159 ?_)
 refine yu 1 [(58, .bptr (fl C_47 x_tags) (Int.toNat s8.2.2 * 8)), (59, .bptr (fl C_47 x_tags) (Int.toNat s8.2.2 * 8 + 1))] [z8, z22, z33] 3 (yg (.load false 1 (.t 59)) (some 60) 55 true (op_loadb (c := C_47) (xs := x_tags) (o := Int.toNat s8.2.2 * 8 + 1) (i := (Int.toNat s8.2.2)) (off := 1) (v := ii (z3.At)) len_C_47 kr ltn ltn dd kr ?_))
 refine ytc [(8 : Int) ≠ 0] (sp 107 [z9, z15, z16, z17, z18, z19, z12, z30, z31, z32, z38]) [z8, z22, z33] 3 (.cons dd .nil) ?_
 rcases cond_sf hh with ⟨hb, hh⟩ | ⟨hb, hh⟩
 · refine cF hb (Aw.skip (blk_m ?_))
   obtain rfl := some_some hh
   exact hN9 (s8.1, s8.2.1) _ _ _ hk9 (el [some 0, some 1, some 2] (rens_sp kr (ro nr_C_47 (ri (ri (rb (rb (rp 0 (rs (.sref 1 [] 0 (List.length (([] : List DLine) ++ x_tags)) 8) (rs (.sref 2 [] 0 (List.length s8.1) 6) (rb (ri rl_n))))))))))) (hq (rB26 x_h) (rens_same (nr_B_26 _)) (hn nr_C_47 (hn nr_C_45 hs_nil))))
 refine cT hb (Aw.sreg [1, 2, 3, 4, 5, 6, 15, 16, 18] [0, 1, 2] (yjc 5 [(8 : Int) ≠ 0] (sp 107 [z9, z15, z16, z17, z18, z19, z12, z30, z31, z32, z38, z35, (66, ii x_addr), z20, (68, bo C_47 x_tags), (69, ii s8.2.2)]) [z8, z22, z33] 3 (.cons dd .nil) ?_))
 obtain ⟨hg162, hh⟩ := grd_some hh
 refine ys (.iadr 8 (.t 68) (.t 69)) (some 70) (op_iadr (kd := .i64) (c := C_47) (xs := x_tags) len_C_47 dd kr kr hg162 ?_)
 refine yu 1 [z36, z37] [z8, z22, z33] 3 (ys (.load true 6 (.t 71)) (some 72) (op_loadbA (c := C_47) (xs := x_tags) (o := Int.toNat s8.2.2 * 8 + 2) (i := (Int.toNat s8.2.2)) (off := 2) (v := .agg [bb ((z3.What).There), bb ((z3.What).Write), bb ((z3.What).User), ii ((z3.What).Page), ii ((z3.What).Frame), bb ((z3.What).Ready)]) len_C_47 kr ltn ltn dd kr ?_))
 obtain ⟨hg163, hh⟩ := grd_some hh
 refine yjc 1 [(0 : Int) ≤ (w64 (Int.tdiv x_addr (8 : Int))) ∧ (w64 (Int.tdiv x_addr (8 : Int))) < (((List.length s8.1) : Nat) : Int)] (sp 107 [z9, z15, z16, z17, z18, z19, z12, z30, z31, z32, z38, z35, (66, ii x_addr), z20, (68, bo C_47 x_tags), (69, ii s8.2.2), z36, z37, (72, .agg [bb ((z3.What).There), bb ((z3.What).Write), bb ((z3.What).User), ii ((z3.What).Page), ii ((z3.What).Frame), bb ((z3.What).Ready)]), (73, .ptr 2 [] (0 + (Int.toNat (w64 (Int.tdiv x_addr (8 : Int)))) * 6))]) [z8, z22, z33] 3 (.cons hg163 .nil) ?_
 let q4 : Root := (rC45 z5)
 refine ys (.store 6 (.t 73) (.t 72)) none (op_store (c := C_45) (xs := s8.1) (e := 45) (r := 2) (π := []) (o := 0 + (Int.toNat (w64 (Int.tdiv x_addr (8 : Int)))) * 6) (i := (Int.toNat (w64 (Int.tdiv x_addr (8 : Int))))) (off := 0) (vs := [bb ((z3.What).There), bb ((z3.What).Write), bb ((z3.What).User), ii ((z3.What).Page), ii ((z3.What).Frame), bb ((z3.What).Ready)]) (y := (z3.What)) (H' := [(2, some q4), z8, z22, z33]) len_C_45 kr kr kr kr ltn ltn dd kr kr ?_)
 refine yt (sp 107 [z9, z15, z16, z17, z18, z19, z12, z30, z32]) [z8, z22, (2, some q4)] 3 (Aw.oreg (ye (sp 107 [z9, z15, z16, z17, z18, z19, z12, z30, (17, bb true), z32]) [z8, z22, (2, some q4)] 3 (blk_m ?_)))
 obtain rfl := some_some hh
 exact hN9 (z5, true) _ _ _ hk9 (el [some 0, some 1, some 2] (rens_sp kr (ro nr_C_47 (ri (ri (rb (rb (rp 0 (rs (.sref 1 [] 0 (List.length (([] : List DLine) ++ x_tags)) 8) (rs (.sref 2 [] 0 (List.length s8.1) 6) (rb (ri rl_n))))))))))) (hq (rB26 x_h) (rens_same (nr_B_26 _)) (hn nr_C_47 (hn nr_C_45 hs_nil))))
end Go.Proofs.Ytbnjdmclnojlmaa
