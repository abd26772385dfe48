/- Plain functions of the program, and that it hands back what they say. Made by program. -/
import Derived.Test.YtbnjdmclnojlmaaWT
import Derived.Test.YtbnjdmclnojlmaaProg
import Derived.Test.YtbnjdmclnojlmaaWHC1
import Derived.Test.YtbnjdmclnojlmaaWHV1
import Derived.Test.YtbnjdmclnojlmaaWO1
namespace Go.Proofs.Ytbnjdmclnojlmaa
open Go.RowKit
set_option maxRecDepth 100000
set_option linter.all false
set_option maxHeartbeats 0
theorem low_spec_EntryFrom : LW 73 ⟨22, [(.cell 2 true 4)], (.seq (.reg false (rg 73 0)) (.seq (.seq (.reg false (rg 73 1)) (.cond (.t 5) (.seq (.reg false (rg 73 2)) .ret) .skip)) (.seq (.reg false (rg 73 3)) .ret)))⟩ := kr
noncomputable def F_spec_EntryFrom (x_w : Int) : Option DEntry :=
 Option.bind (F_spec_WordOk x_w) fun v1 =>
 cond (!v1)
  (some (DEntry.mk false false false (0 : Int)))
  (some (DEntry.mk (decide ((Int.tmod x_w (2 : Int)) = (1 : Int))) (decide ((Int.tmod (w64 (Int.tdiv x_w (2 : Int))) (2 : Int)) = (1 : Int))) (decide ((Int.tmod (w64 (Int.tdiv x_w (4 : Int))) (2 : Int)) = (1 : Int))) (Int.tmod (w64 (Int.tdiv x_w (8 : Int))) (8 : Int))))
theorem spec_EntryFrom_fn {x_w : Int} {R_ : DEntry} (hh : F_spec_EntryFrom x_w = some R_) : Fn Try.prog 73 [.int .i64 x_w] (.agg [.bool R_.There, .bool R_.Write, .bool R_.User, .int .i64 R_.Page]) := by
 unfold F_spec_EntryFrom at hh
 refine Fn.start low_spec_EntryFrom [0] (E := sp 22 [(0, ii x_w)]) kr (v := .agg [bb R_.There, bb R_.Write, bb R_.User, ii R_.Page]) (Hr := []) (k := 0) kr (Aw.sreg [0, 2] [0] ?_)
 let q1 : Root := ⟨116, [bb false, bb false, bb false, ii 0]⟩
 refine yt (sp 22 [(0, ii x_w), (2, pp 0)]) [(0, some q1)] 1 (Aw.seq (Aw.sreg [0, 2, 5] [0] (yj 1  (sp 22 [(0, ii x_w), (2, pp 0), (3, ii x_w)]) [(0, some q1)] 1 ?_)))
 obtain ⟨v1, hv1, hh⟩ := bind_some hh
 refine ys (.call 92 [(.t 3)]) (some 4) (oc (spec_WordOk_fn hv1) ?_)
 refine yt (sp 22 [(0, ii x_w), (2, pp 0), (5, bb (!v1))]) [(0, some q1)] 1 ?_
 rcases cond_some hh with ⟨hb, hh⟩ | ⟨hb, hh⟩
 · refine cT hb (sy [2] [0] (sp 22 [(2, pp 0)]) [(0, some q1)] 1 (Aw.ret (then_r ?_)))
   rw [some_some hh]
   exact gives (r' := .agg [bb false, bb false, bb false, ii 0]) kr (Ent.list [] rfl rfl (Nat.zero_le _) (rens_1 (ren_agg rz)) hs_nil)
 refine cF hb (Aw.xskip (fun _ _ _ hq => then_m hq) (Aw.sreg [2] [0] (ytc [(2 : Int) ≠ 0, (2 : Int) ≠ 0, (2 : Int) ≠ 0, (4 : Int) ≠ 0, (2 : Int) ≠ 0, (8 : Int) ≠ 0, (8 : Int) ≠ 0] (sp 22 [(2, pp 0)]) [(0, some ⟨116, [bb (decide ((Int.tmod x_w (2 : Int)) = (1 : Int))), bb (decide ((Int.tmod (w64 (Int.tdiv x_w (2 : Int))) (2 : Int)) = (1 : Int))), bb (decide ((Int.tmod (w64 (Int.tdiv x_w (4 : Int))) (2 : Int)) = (1 : Int))), ii (Int.tmod (w64 (Int.tdiv x_w (8 : Int))) (8 : Int))]⟩)] 1 (.cons dd (.cons dd (.cons dd (.cons dd (.cons dd (.cons dd (.cons dd .nil))))))) (Aw.ret ?_))))
 rw [some_some hh]
 exact gives (r' := .agg [bb (decide ((Int.tmod x_w (2 : Int)) = (1 : Int))), bb (decide ((Int.tmod (w64 (Int.tdiv x_w (2 : Int))) (2 : Int)) = (1 : Int))), bb (decide ((Int.tmod (w64 (Int.tdiv x_w (4 : Int))) (2 : Int)) = (1 : Int))), ii (Int.tmod (w64 (Int.tdiv x_w (8 : Int))) (8 : Int))]) kr (Ent.list [] rfl rfl (Nat.zero_le _) (rens_1 (ren_agg rz)) hs_nil)
theorem low_spec_l5Word : LW 74 ⟨30, [(.tmp 6)], (.seq (.reg false (rg 74 0)) (.seq (.reg false (rg 74 1)) (.seq (.seq (.reg false (rg 74 2)) (.cond (.t 20) (.seq (.reg false (rg 74 3)) .ret) .skip)) (.seq (.reg false (rg 74 4)) .ret))))⟩ := kr
noncomputable def F_spec_l5Word (x_h : DHost) (x_g : Int) (x_at : Int) : Option Int :=
 grd ((0 : Int) ≤ x_g ∧ x_g < ((List.length x_h.Guests : Nat) : Int)) (grd ((0 : Int) ≤ (w64 (Int.tdiv x_at (8 : Int))) ∧ (w64 (Int.tdiv x_at (8 : Int))) < ((List.length ((List.getD x_h.Guests (Int.toNat x_g) default).Pages) : Nat) : Int)) (cond (decide (((List.getD ((List.getD x_h.Guests (Int.toNat x_g) default).Pages) (Int.toNat (w64 (Int.tdiv x_at (8 : Int)))) default).Frame) < (0 : Int)))
  (some (0 : Int))
  (grd ((0 : Int) ≤ (w64 ((w64 (((List.getD ((List.getD x_h.Guests (Int.toNat x_g) default).Pages) (Int.toNat (w64 (Int.tdiv x_at (8 : Int)))) default).Frame) * (8 : Int))) + (Int.tmod x_at (8 : Int)))) ∧ (w64 ((w64 (((List.getD ((List.getD x_h.Guests (Int.toNat x_g) default).Pages) (Int.toNat (w64 (Int.tdiv x_at (8 : Int)))) default).Frame) * (8 : Int))) + (Int.tmod x_at (8 : Int)))) < ((List.length x_h.Words : Nat) : Int)) (some (List.getD x_h.Words (Int.toNat (w64 ((w64 (((List.getD ((List.getD x_h.Guests (Int.toNat x_g) default).Pages) (Int.toNat (w64 (Int.tdiv x_at (8 : Int)))) default).Frame) * (8 : Int))) + (Int.tmod x_at (8 : Int))))) default)))))
theorem spec_l5Word_fn {x_h : DHost} {x_g : Int} {x_at : Int} {R_ : Int} (hh : F_spec_l5Word x_h x_g x_at = some R_) : Fn Try.prog 74 [.agg (B_26 x_h), .int .i64 x_g, .int .i64 x_at] (.int .i64 R_) := by
 let z4 : EH := (0, some (rB26 x_h)); let z5 : EV := (11, .bptr (fl B_108 x_h.Guests) (Int.toNat x_g * 17)); let z6 : EV := (12, .bptr (fl B_108 x_h.Guests) (Int.toNat x_g * 17 + 14)); let z7 := (2, ii x_at); let z1 := List.getD x_h.Guests (Int.toNat x_g) default; let z2 := List.getD (z1.Pages) (Int.toNat (w64 (Int.tdiv x_at (8 : Int)))) default; let z8 := (20, bb (decide ((z2.Frame) < (0 : Int)))); let z9 := (7, ii (z2.Frame)); let z3 := List.getD x_h.Words (Int.toNat (w64 ((w64 ((z2.Frame) * (8 : Int))) + (Int.tmod x_at (8 : Int))))) default
 unfold F_spec_l5Word at hh
 refine Fn.start low_spec_l5Word [0, 1, 2] (E := sp 30 [(0, .agg (B_26 x_h)), (1, ii x_g), z7]) kr (v := ii R_) (Hr := []) (k := 0) kr (sy [1, 2, 3] [0] (sp 30 [(1, ii x_g), z7, (3, pp 0)]) [z4] 1 (Aw.sreg [2, 3, 7] [0] (yu 3 [(8, .ptr 0 [] 1), (9, bo B_108 x_h.Guests), (10, ii x_g)] [z4] 1 ?_)))
 obtain ⟨hg3, hh⟩ := grd_some hh
 refine ys (.iadr 17 (.t 9) (.t 10)) (some 11) (op_iadr (kd := .i64) (c := B_108) (xs := x_h.Guests) len_B_108 dd kr kr hg3 ?_)
 refine yu 1 [z5, z6] [z4] 1 (ys (.load false 1 (.t 12)) (some 13) (op_loadb (c := B_108) (xs := x_h.Guests) (o := Int.toNat x_g * 17 + 14) (i := (Int.toNat x_g)) (off := 14) (v := bo C_110 (z1.Pages)) len_B_108 kr ltn ltn dd kr ?_))
 refine yjc 2 [(8 : Int) ≠ 0] (sp 30 [(1, ii x_g), z7, (3, pp 0), (8, .ptr 0 [] 1), (9, bo B_108 x_h.Guests), (10, ii x_g), z5, z6, (13, bo C_110 (z1.Pages)), (14, ii x_at), (15, ii (w64 (Int.tdiv x_at (8 : Int))))]) [z4] 1 (.cons dd .nil) ?_
 obtain ⟨hg4, hh⟩ := grd_some hh
 refine ys (.iadr 3 (.t 13) (.t 15)) (some 16) (op_iadr (kd := .i64) (c := C_110) (xs := z1.Pages) len_C_110 dd kr kr hg4 ?_)
 refine yu 1 [(16, .bptr (fl C_110 (z1.Pages)) (Int.toNat (w64 (Int.tdiv x_at (8 : Int))) * 3)), (17, .bptr (fl C_110 (z1.Pages)) (Int.toNat (w64 (Int.tdiv x_at (8 : Int))) * 3 + 0))] [z4] 1 (ys (.load false 1 (.t 17)) (some 18) (op_loadb (c := C_110) (xs := z1.Pages) (o := Int.toNat (w64 (Int.tdiv x_at (8 : Int))) * 3 + 0) (i := (Int.toNat (w64 (Int.tdiv x_at (8 : Int))))) (off := 0) (v := ii (z2.Frame)) len_C_110 kr ltn ltn dd kr ?_))
 refine yt (sp 30 [z7, (3, pp 0), z9]) [z4] 1 (Aw.seq (sy [2, 3, 7, 20] [0] (sp 30 [z7, (3, pp 0), z9, z8]) [z4] 1 ?_))
 rcases cond_some hh with ⟨hb, hh⟩ | ⟨hb, hh⟩
 · exact cT hb (sy [6] [] (sp 30 [(6, ii 0)]) [] 1 (Aw.ret (then_r (gvis hh))))
 refine cF hb (Aw.xskip (fun _ _ _ hq => then_m hq) (Aw.sreg [6] [] (yjc 7 [(8 : Int) ≠ 0] (sp 30 [z7, (3, pp 0), z9, z8, (21, pp 0), (22, bo (eI .i64) x_h.Words), (23, ii (z2.Frame)), (24, ii (w64 ((z2.Frame) * (8 : Int)))), (25, ii x_at), (26, ii (Int.tmod x_at (8 : Int))), (27, ii (w64 ((w64 ((z2.Frame) * (8 : Int))) + (Int.tmod x_at (8 : Int)))))]) [z4] 1 (.cons dd .nil) ?_)))
 obtain ⟨hg6, hh⟩ := grd_some hh
 refine ys (.iadr 1 (.t 22) (.t 27)) (some 28) (op_iadr (kd := .i64) (c := (eI .i64)) (xs := x_h.Words) len_eI dd kr kr hg6 ?_)
 refine ys (.load false 1 (.t 28)) (some 29) (op_loadb (c := (eI .i64)) (xs := x_h.Words) (o := Int.toNat (w64 ((w64 ((z2.Frame) * (8 : Int))) + (Int.tmod x_at (8 : Int)))) * 1) (i := (Int.toNat (w64 ((w64 ((z2.Frame) * (8 : Int))) + (Int.tmod x_at (8 : Int)))))) (off := 0) (v := ii z3) len_eI kr ltn ltn dd kr ?_)
 exact yt (sp 30 [(6, ii z3)]) [] 1 (Aw.ret (gvis hh))
theorem low_spec_ShadowOf : LW 39 ⟨66, [(.tmp 4)], (.seq (.reg false (rg 39 0)) (.seq (.reg false (rg 39 1)) (.seq (.seq (.reg false (rg 39 2)) (.cond (.t 14) (.seq (.reg false (rg 39 3)) .ret) .skip)) (.seq (.seq (.reg false (rg 39 4)) (.block 0 (.loop (.seq (.seq (.reg false (rg 39 5)) (.cond (.t 17) .skip (.exit 0))) (.seq (.block 1 (.seq (.reg false (rg 39 6)) (.seq (.seq (.reg false (rg 39 7)) (.seq (.reg false (rg 39 8)) (.cond (.t 30) (.reg false (rg 39 9)) .skip))) (.seq (.regd (rg 39 10) (rg 39 11)) (.reg false (rg 39 12)))))) (.reg false (rg 39 13))))))) (.seq (.reg false (rg 39 15)) .ret)))))⟩ := kr
noncomputable def F_spec_ShadowOf_j2  (s2 : (List DShade)) : Option (List DShade) :=
 some s2
noncomputable def F_spec_ShadowOf_j4 (x_h : DHost) (x_g : Int) (s3 : (List DShade) × Int) (s4 : Bool × Bool × Bool × Int) : Option (LO ((List DShade) × Int) (JO (List DShade) (List DShade))) :=
 grd ((0 : Int) ≤ x_g ∧ x_g < ((List.length x_h.Guests : Nat) : Int)) (grd ((0 : Int) ≤ s4.2.2.2 ∧ s4.2.2.2 < ((List.length ((List.getD x_h.Guests (Int.toNat x_g) default).Pages) : Nat) : Int)) (grd ((List.length s3.1 + List.length ([(DShade.mk s4.1 s4.2.1 s4.2.2.1 s4.2.2.2 ((List.getD ((List.getD x_h.Guests (Int.toNat x_g) default).Pages) (Int.toNat s4.2.2.2) default).Frame) ((List.getD ((List.getD x_h.Guests (Int.toNat x_g) default).Pages) (Int.toNat s4.2.2.2) default).Write))] : List DShade)) * 32 ≤ 2 ^ 47 ∧ List.length s3.1 + List.length ([(DShade.mk s4.1 s4.2.1 s4.2.2.1 s4.2.2.2 ((List.getD ((List.getD x_h.Guests (Int.toNat x_g) default).Pages) (Int.toNat s4.2.2.2) default).Frame) ((List.getD ((List.getD x_h.Guests (Int.toNat x_g) default).Pages) (Int.toNat s4.2.2.2) default).Write))] : List DShade) ≤ 2 ^ 47) (some (.next ((s3.1 ++ ([(DShade.mk s4.1 s4.2.1 s4.2.2.1 s4.2.2.2 ((List.getD ((List.getD x_h.Guests (Int.toNat x_g) default).Pages) (Int.toNat s4.2.2.2) default).Frame) ((List.getD ((List.getD x_h.Guests (Int.toNat x_g) default).Pages) (Int.toNat s4.2.2.2) default).Write))] : List DShade)), (w64 (s3.2 + (1 : Int))))))))
noncomputable def F_spec_ShadowOf_l3 (x_h : DHost) (x_g : Int) (s3 : (List DShade) × Int) : Option (LO ((List DShade) × Int) (JO (List DShade) (List DShade))) :=
 cond (decide (s3.2 < (8 : Int)))
  (Option.bind (grd ((0 : Int) ≤ x_g ∧ x_g < ((List.length x_h.Guests : Nat) : Int)) (cond (decide ((0 : Int) ≤ (((List.getD x_h.Guests (Int.toNat x_g) default).C).Root)))
   (Option.bind (F_spec_l5Word x_h x_g (w64 ((w64 ((((List.getD x_h.Guests (Int.toNat x_g) default).C).Root) * (8 : Int))) + s3.2))) fun v5 =>
   Option.bind (F_spec_EntryFrom v5) fun v6 =>
   some (.go (v6.There, v6.Write, v6.User, v6.Page)))
   (some (.go (true, true, true, s3.2))))) fun j4 =>
   JO.run j4 (F_spec_ShadowOf_j4 x_h x_g s3))
  (some (.ret (.go s3.1)))
noncomputable def F_spec_ShadowOf (x_h : DHost) (x_g : Int) : Option (List DShade) :=
 Option.bind (F_spec_l4Live x_h x_g) fun v1 =>
 cond (!v1)
  (some ([] : List DShade))
  (Option.bind (Option.bind (iter (F_spec_ShadowOf_l3 x_h x_g) (([] : List DShade), (0 : Int))) LO.val) fun j2 =>
   JO.run j2 (F_spec_ShadowOf_j2))
theorem spec_ShadowOf_fn {x_h : DHost} {x_g : Int} {R_ : (List DShade)} (hh : F_spec_ShadowOf x_h x_g = some R_) : Fn Try.prog 39 [.agg (B_26 x_h), .int .i64 x_g] (.own 45 6 (List.length R_) (fl C_45 R_)) := by
 let z4 : EH := (0, some (rB26 x_h)); let z5 := (1, ii x_g); let z6 : EH := (1, some ⟨45, []⟩); let z7 := (2, pp 0); let z8 : EV := (39, .ptr 0 [] 1); let z9 := (40, bo B_108 x_h.Guests); let z10 := (41, ii x_g); let z11 : EV := (42, .bptr (fl B_108 x_h.Guests) (Int.toNat x_g * 17)); let z12 : EV := (43, .bptr (fl B_108 x_h.Guests) (Int.toNat x_g * 17 + 14)); let z13 : EV := (5, .sref 1 [] 0 0 6); let z14 := (7, pp 2); let z1 := List.getD x_h.Guests (Int.toNat x_g) default; let z15 := (30, bb (decide ((0 : Int) ≤ ((z1.C).Root)))); let z16 := (34, ii (w64 (((z1.C).Root) * (8 : Int)))); let z17 := (8, ii ((z1.C).Root))
 unfold F_spec_ShadowOf at hh
 refine Fn.start low_spec_ShadowOf [0, 1] (E := sp 66 [(0, .agg (B_26 x_h)), z5]) kr (v := .sref 0 [] 0 (List.length R_) 6) (Hr := [(0, some (rC45 R_))]) (k := 1) kr (sy [1, 2] [0] (sp 66 [z5, z7]) [z4] 1 (sy [1, 2, 5] [0, 1] (sp 66 [z5, z7, z13]) [z4, z6] 2 (Aw.seq (Aw.sreg [1, 2, 5, 14] [0, 1] (yj 2  (sp 66 [z5, z7, z13, (11, .agg (B_26 x_h)), (12, ii x_g)]) [z4, z6] 2 ?_)))))
 obtain ⟨v1, hv1, hh⟩ := bind_some hh
 refine ys (.call 37 [(.t 11), (.t 12)]) (some 13) (op_call (r := bb v1) (v := bb v1) (Hr := []) (n' := 2) (spec_l4Live_fn hv1) (clz_v (vs := [.agg (B_26 x_h), ii x_g]) kr (clz_c (clo_same (clean_agg (cl_B_26 _))) (cz1 clz_n))) rfl rfl kr ?_)
 refine yt (sp 66 [z5, z7, z13, (14, bb (!v1))]) [z4, z6] 2 ?_
 rcases cond_some hh with ⟨hb, hh⟩ | ⟨hb, hh⟩
 · refine cT hb (sy [4] [1] (sp 66 [(4, .sref 1 [] 0 0 6)]) [z6] 2 (Aw.ret (then_r ?_)))
   rw [some_some hh]
   exact gives (r' := .sref 1 [] 0 0 6) kr (Ent.list [some 1] rfl rfl (Nat.zero_le _) (rens_1 ren_sy) (hq ⟨45, []⟩ (rens_same rfl) hs_nil))
 refine cF hb (Aw.xskip (fun _ _ _ hq => then_m hq) ?_)
 obtain ⟨j2, hh, hk2⟩ := bind_some hh
 refine Aw.join (S := (List DShade)) (fun s2 => sp 66 [(5, .sref 0 [] 0 (List.length s2) 6)]) (fun s2 => [(0, some (rC45 s2))]) 1 (fun s2 => F_spec_ShadowOf_j2 s2 = some R_) ?_ ?_
 · intro s2 hh
   unfold F_spec_ShadowOf_j2 at hh
   refine sy [4] [0] (sp 66 [(4, .sref 0 [] 0 (List.length s2) 6)]) [(0, some (rC45 s2))] 1 (Aw.ret ?_)
   rw [some_some hh]
   exact gives (r' := .sref 0 [] 0 (List.length s2) 6) kr (Ent.list [some 0] rfl rfl (Nat.zero_le _) (rens_1 ren_sy) (hn nr_C_45 hs_nil))
 intro Q2 hN2 hR2 hE2
 refine sy [1, 2, 5, 6] [0, 1] (sp 66 [z5, z7, z13, (6, ii 0)]) [z4, z6] 2 (Aw.block ?_)
 obtain ⟨o3, hi3, hk3⟩ := bind_some hh
 refine Aw.iter (fun (s3 : (List DShade) × Int) => sp 66 [(1, ii x_g), (2, pp 0), (5, .sref 1 [] 0 (List.length s3.1) 6), (6, ii s3.2)]) (fun (s3 : (List DShade) × Int) => [(0, some (rB26 x_h)), (1, some (rC45 s3.1))]) 2 hi3 (el [some 0, some 1] (rens_sp kr (ri (rp 0 (rs (.sref 1 [] 0 0 6) (ri rl_n))))) (hq (rB26 x_h) (rens_same (nr_B_26 _)) (hn nr_C_45 hs_nil))) ?_
 intro s3 u3 Q3 hh hN3 hX3 hR3
 let z18 : EH := (1, some (rC45 s3.1)); let z19 := (36, ii (w64 ((w64 (((z1.C).Root) * (8 : Int))) + s3.2))); let z20 : EV := (5, .sref 1 [] 0 (List.length s3.1) 6); let z21 := (6, ii s3.2)
 unfold F_spec_ShadowOf_l3 at hh
 refine Aw.seq (sy [1, 2, 5, 6, 17] [0, 1] (sp 66 [z5, z7, z20, z21, (17, bb (decide (s3.2 < (8 : Int))))]) [z4, z18] 2 ?_)
 rcases cond_sf hh with ⟨hb, hh⟩ | ⟨hb, hh⟩
 · refine cF hb (Aw.exit (then_x (hX3 _ _ _ _ _ (some_some hh) ?_)))
   intro hout
   rw [hout] at hk3
   refine blk_x ?_
   obtain rfl := some_some hk3
   exact hN2 s3.1 _ _ _ hk2 (el [some 1] (rens_sp kr (rs (.sref 1 [] 0 (List.length s3.1) 6) rl_n)) (hn nr_C_45 hs_nil))
 refine cT hb (Aw.xskip (fun _ _ _ hq => then_m hq) (Aw.seq (Aw.block (Aw.sreg [1, 2, 5, 6, 7] [0, 1, 2] ?_))))
 let q1 : Root := ⟨116, [bb true, bb true, bb true, ii s3.2]⟩; let z22 := (2, some q1)
 refine yt (sp 66 [z5, z7, z20, z21, z14]) [z4, z18, z22] 3 ?_
 obtain ⟨j4, hh, hk4⟩ := bind_some hh
 refine Aw.join (S := Bool × Bool × Bool × Int) (fun s4 => sp 66 [(1, ii x_g), (2, pp 0), (5, .sref 1 [] 0 (List.length s3.1) 6), (6, ii s3.2), (7, pp 2)]) (fun s4 => [(0, some (rB26 x_h)), (1, some (rC45 s3.1)), (2, some ⟨116, [bb s4.1, bb s4.2.1, bb s4.2.2.1, ii s4.2.2.2]⟩)]) 3 (fun s4 => F_spec_ShadowOf_j4 x_h x_g s3 s4 = some u3) ?_ ?_
 · intro s4 hh
   let z2 := List.getD (z1.Pages) (Int.toNat s4.2.2.2) default; let z3 := DShade.mk s4.1 s4.2.1 s4.2.2.1 s4.2.2.2 (z2.Frame) (z2.Write); let z23 : EV := (5, .sref 5 [] 0 (List.length (s3.1 ++ ([z3] : List DShade))) 6)
   unfold F_spec_ShadowOf_j4 at hh
   refine Aw.sregd [1, 2, 5, 6, 7, 9] [0, 1, 2, 3] [] kr ?_
   let q2 : Root := ⟨116, [bb s4.1, bb s4.2.1, bb s4.2.2.1, ii s4.2.2.2]⟩; let z24 := (2, some q2)
   refine dj 3 (sp 66 [z5, z7, z20, z21, z14, z8, z9, z10]) [z4, z18, z24] 3 ?_
   obtain ⟨hg131, hh⟩ := grd_some hh
   refine ds (.iadr 17 (.t 40) (.t 41)) (some 42) (ydo_q rfl kr (op_iadr (kd := .i64) (c := B_108) (xs := x_h.Guests) len_B_108 dd kr kr hg131 ?_))
   refine dj 1 (sp 66 [z5, z7, z20, z21, z14, z8, z9, z10, z11, z12]) [z4, z18, z24] 3 (ds (.load false 1 (.t 43)) (some 44) (ydo_q rfl kr (op_loadb (c := B_108) (xs := x_h.Guests) (o := Int.toNat x_g * 17 + 14) (i := (Int.toNat x_g)) (off := 14) (v := bo C_110 (z1.Pages)) len_B_108 kr ltn ltn dd kr ?_)))
   refine dj 2 (sp 66 [z5, z7, z20, z21, z14, z8, z9, z10, z11, z12, (44, bo C_110 (z1.Pages)), (45, .ptr 2 [] 3), (46, ii s4.2.2.2)]) [z4, z18, z24] 3 ?_
   obtain ⟨hg132, hh⟩ := grd_some hh
   refine ds (.iadr 3 (.t 44) (.t 46)) (some 47) (ydo_q rfl kr (op_iadr (kd := .i64) (c := C_110) (xs := z1.Pages) len_C_110 dd kr kr hg132 ?_))
   refine ds (.load true 3 (.t 47)) (some 48) (ydo_q rfl kr (op_loadbA (c := C_110) (xs := z1.Pages) (o := Int.toNat s4.2.2.2 * 3) (i := (Int.toNat s4.2.2.2)) (off := 0) (v := .agg [ii (z2.Frame), bb (z2.Write), bb (z2.Dirty)]) len_C_110 kr ltn ltn dd kr ?_))
   refine dt (sp 66 [z5, z7, z20, z21, z14, (9, pp 3), z8, z9, z10, z11, z12, (44, bo C_110 (z1.Pages)), (45, .ptr 2 [] 3), (46, ii s4.2.2.2), (47, .bptr (fl C_110 (z1.Pages)) (Int.toNat s4.2.2.2 * 3)), (48, .agg [ii (z2.Frame), bb (z2.Write), bb (z2.Dirty)])]) [(3, some ⟨110, [ii 0, bb false, bb false]⟩), z4, z18, z24] 4 ?_
   let q3 : Root := ⟨110, [ii (z2.Frame), bb (z2.Write), bb (z2.Dirty)]⟩
   refine yt (sp 66 [z5, z7, z20, z21, z14, (9, pp 3)]) [z4, z18, z24, (3, some q3)] 4 (Aw.xreg [1, 2, 5, 6] [0, 5] (fun _ _ _ hq => blk_m (then_m hq)) (yj 15  (sp 66 [z5, z7, z20, z21, z14, (9, pp 3), (49, .sref 1 [] 0 (List.length s3.1) 6), (50, pp 2), (51, bb s4.1), (52, .ptr 2 [] 1), (53, bb s4.2.1), (54, .ptr 2 [] 2), (55, bb s4.2.2.1), (56, .ptr 2 [] 3), (57, ii s4.2.2.2), (58, pp 3), (59, ii (z2.Frame)), (60, .ptr 3 [] 1), (61, bb (z2.Write)), (62, .agg [bb s4.1, bb s4.2.1, bb s4.2.2.1, ii s4.2.2.2, ii (z2.Frame), bb (z2.Write)]), (63, .sref 4 [] 0 1 6)]) [(4, some ⟨45, [bb s4.1, bb s4.2.1, bb s4.2.2.1, ii s4.2.2.2, ii (z2.Frame), bb (z2.Write)]⟩), z4, z18, z24, (3, some q3)] 5 ?_))
   obtain ⟨hg134, hh⟩ := grd_some hh
   refine ys (.app 45 6 32 [(bb false), (bb false), (bb false), (ii 0), (ii 0), (bb false)] (.t 49) (.t 63)) (some 64) (op_app (c := C_45) (xs := s3.1) (ys := ([z3] : List DShade)) (r := 1) (k := (List.length s3.1)) (π := []) eqn len_C_45 kr kr kr hg134 ?_)
   let q4 : Root := (rC45 (s3.1 ++ ([z3] : List DShade)))
   exact yt (sp 66 [z5, z7, z23, z21]) [z4, (5, some q4)] 6 (Aw.oreg (ye (sp 66 [z5, z7, z23, (6, ii (w64 (s3.2 + (1 : Int)))), (18, ii s3.2), (19, ii (w64 (s3.2 + (1 : Int))))]) [z4, (5, some q4)] 6 (hN3 ((s3.1 ++ ([z3] : List DShade)), (w64 (s3.2 + (1 : Int)))) _ _ _ (some_some hh) (el [some 0, some 5] (rens_sp kr (ri (rp 0 (rs (.sref 5 [] 0 (List.length (s3.1 ++ ([z3] : List DShade))) 6) (ri rl_n))))) (hq (rB26 x_h) (rens_same (nr_B_26 _)) (hn nr_C_45 hs_nil))))))
 intro Q4 hN4 hR4 hE4
 refine Aw.sreg [1, 2, 5, 6, 7, 8] [0, 1, 2] (yj 3  (sp 66 [z5, z7, z20, z21, z14, (22, .ptr 0 [] 1), (23, bo B_108 x_h.Guests), (24, ii x_g)]) [z4, z18, z22] 3 ?_)
 obtain ⟨hg136, hh⟩ := grd_some hh
 refine ys (.iadr 17 (.t 23) (.t 24)) (some 25) (op_iadr (kd := .i64) (c := B_108) (xs := x_h.Guests) len_B_108 dd kr kr hg136 ?_)
 refine yu 2 [(25, .bptr (fl B_108 x_h.Guests) (Int.toNat x_g * 17)), (26, .bptr (fl B_108 x_h.Guests) (Int.toNat x_g * 17 + 1)), (27, .bptr (fl B_108 x_h.Guests) (Int.toNat x_g * 17 + 1 + 2))] [z4, z18, z22] 3 (ys (.load false 1 (.t 27)) (some 28) (op_loadb (c := B_108) (xs := x_h.Guests) (o := Int.toNat x_g * 17 + 1 + 2) (i := (Int.toNat x_g)) (off := 3) (v := ii ((z1.C).Root)) len_B_108 kr ltn ltn dd kr ?_))
 refine yt (sp 66 [z5, z7, z20, z21, z14, z17]) [z4, z18, z22] 3 (sy [1, 2, 5, 6, 7, 8, 30] [0, 1, 2] (sp 66 [z5, z7, z20, z21, z14, z17, z15]) [z4, z18, z22] 3 ?_)
 rcases cond_sf hh with ⟨hb, hh⟩ | ⟨hb, hh⟩
 · refine cF hb (Aw.skip ?_)
   obtain rfl := some_some hh
   exact hN4 (true, true, true, s3.2) _ _ _ hk4 (el [some 0, some 1, some 2] (rens_sp kr (ri (rp 0 (rs (.sref 1 [] 0 (List.length s3.1) 6) (ri (rp 2 rl_n)))))) (hq (rB26 x_h) (rens_same (nr_B_26 _)) (hn nr_C_45 (hq q1 rz hs_nil))))
 refine cT hb (Aw.oreg (yu 6 [(31, .agg (B_26 x_h)), (32, ii x_g), (33, ii ((z1.C).Root)), z16, (35, ii s3.2), z19] [z4, z18, z22] 3 ?_))
 obtain ⟨v5, hv5, hh⟩ := bind_some hh
 refine ys (.call 74 [(.t 31), (.t 32), (.t 36)]) (some 37) (op_call (r := ii v5) (v := ii v5) (Hr := []) (n' := 3) (spec_l5Word_fn hv5) (clz_v (vs := [.agg (B_26 x_h), ii x_g, ii (w64 ((w64 (((z1.C).Root) * (8 : Int))) + s3.2))]) kr (clz_c (clo_same (clean_agg (cl_B_26 _))) (cz1 (cz1 clz_n)))) rfl rfl kr ?_)
 obtain ⟨v6, hv6, hh⟩ := bind_some hh
 refine ys (.call 73 [(.t 37)]) (some 38) (oc (spec_EntryFrom_fn hv6) ?_)
 refine ye (sp 66 [z5, z7, z20, z21, z14, z17, z15, (31, .agg (B_26 x_h)), (32, ii x_g), (33, ii ((z1.C).Root)), z16, (35, ii s3.2), z19, (37, ii v5), (38, .agg (C_116 v6))]) [(2, some ⟨116, (C_116 v6)⟩), z4, z18, z22] 3 ?_
 obtain rfl := some_some hh
 exact hN4 (v6.There, v6.Write, v6.User, v6.Page) _ _ _ hk4 (el [some 0, some 1, some 2] (rens_sp kr (ri (rp 0 (rs (.sref 1 [] 0 (List.length s3.1) 6) (ri (rp 2 rl_n)))))) (hq (rB26 x_h) (rens_same (nr_B_26 _)) (hn nr_C_45 (hq ⟨116, (C_116 v6)⟩ rz hs_nil))))
theorem low_impl_slotWords : LW 97 ⟨13, [(.tmp 4)], (.seq (.reg false (rg 97 0)) (.seq (.seq (.reg false (rg 97 1)) (.cond (.t 7) (.seq (.reg false (rg 97 2)) .ret) .skip)) (.seq (.reg false (rg 97 3)) .ret)))⟩ := kr
noncomputable def F_impl_slotWords (x_words : List Int) (x_s : DSlot) : Option (List Int) :=
 cond (decide (x_s.Frame = (-1 : Int)))
  (some (List.replicate (Int.toNat (8 : Int)) (0 : Int)))
  (Option.bind (F_impl_pageOf x_words x_s.Frame) fun v1 =>
  some v1)
theorem impl_slotWords_fn {x_words : List Int} {x_s : DSlot} {R_ : (List Int)} (hh : F_impl_slotWords x_words x_s = some R_) : Fn Try.prog 97 [bo (eI .i64) x_words, .agg (C_110 x_s)] (bo (eI .i64) R_) := by
 let z1 := (0, bo (eI .i64) x_words); let z2 : EH := (0, some ⟨110, (C_110 x_s)⟩); let z3 := (7, bb (decide (x_s.Frame = (-1 : Int))))
 unfold F_impl_slotWords at hh
 refine Fn.start low_impl_slotWords [0, 1] (E := sp 13 [z1, (1, .agg (C_110 x_s))]) kr (v := bo (eI .i64) R_) (Hr := []) (k := 0) kr (sy [0, 3] [0] (sp 13 [z1, (3, pp 0)]) [z2] 1 (Aw.seq (sy [0, 3, 7] [0] (sp 13 [z1, (3, pp 0), z3]) [z2] 1 ?_)))
 rcases cond_some hh with ⟨hb, hh⟩ | ⟨hb, hh⟩
 · refine cT hb (Aw.sreg [4] [1] (ys (.mk 3 1 8 [(ii 0)] (.c (ii 8))) (some 8) (op_mk (c := (eI .i64)) (d := (0 : Int)) (k := (8 : Int)) kr dd kr ?_)))
   refine yt (sp 13 [(4, .sref 1 [] 0 (List.length (List.replicate (Int.toNat (8 : Int)) (0 : Int))) 1)]) [(1, some (rI_3 (List.replicate (Int.toNat (8 : Int)) (0 : Int))))] 2 (Aw.ret (then_r ?_))
   rw [some_some hh]
   exact gives (r' := .sref 1 [] 0 (List.length (List.replicate (Int.toNat (8 : Int)) (0 : Int))) 1) kr (Ent.clov (.one _ _ (clo_own (c := (eI .i64)) (xs := (List.replicate (Int.toNat (8 : Int)) (0 : Int))) (e := 3) eqn len_eI no_eI cl_eI kr)))
 refine cF hb (Aw.xskip (fun _ _ _ hq => then_m hq) (Aw.sreg [4] [] (yj 3  (sp 13 [z1, (3, pp 0), z3, (9, bo (eI .i64) x_words), (10, pp 0), (11, ii x_s.Frame)]) [z2] 1 ?_)))
 obtain ⟨v1, hv1, hh⟩ := bind_some hh
 refine ys (.call 114 [(.t 9), (.t 11)]) (some 12) (op_callp (r := bo (eI .i64) v1) (v := bo (eI .i64) v1) (Hr := []) (n' := 1) (impl_pageOf_fn hv1) (clz_v (vs := [bo (eI .i64) x_words, ii x_s.Frame]) kr (clz_c (clo_same (clean_bor (cleans_fl cl_eI))) (cz1 clz_n))) nrr kr ?_)
 refine yt (sp 13 [(4, bo (eI .i64) v1)]) [] 1 (Aw.ret ?_)
 rw [some_some hh]
 exact gives (r' := bo (eI .i64) v1) kr (Ent.clov (.one _ _ (clo_same (clean_bor (cleans_fl cl_eI)))))
theorem low_impl_EntryFrom : LW 98 ⟨23, [(.cell 2 true 4)], (.seq (.reg false (rg 98 0)) (.seq (.seq (.reg false (rg 98 1)) (.cond (.t 5) (.seq (.reg false (rg 98 2)) .ret) .skip)) (.seq (.reg false (rg 98 3)) .ret)))⟩ := kr
noncomputable def F_impl_EntryFrom (x_w : Int) : Option DEntry :=
 Option.bind (F_impl_WordOk x_w) fun v1 =>
 cond (!v1)
  (some (DEntry.mk false false false (0 : Int)))
  (some (DEntry.mk (decide ((Int.tmod (w64 (Int.tdiv x_w (1 : Int))) (2 : Int)) = (1 : Int))) (decide ((Int.tmod (w64 (Int.tdiv x_w (2 : Int))) (2 : Int)) = (1 : Int))) (decide ((Int.tmod (w64 (Int.tdiv x_w (4 : Int))) (2 : Int)) = (1 : Int))) (Int.tmod (w64 (Int.tdiv x_w (8 : Int))) (8 : Int))))
theorem impl_EntryFrom_fn {x_w : Int} {R_ : DEntry} (hh : F_impl_EntryFrom x_w = some R_) : Fn Try.prog 98 [.int .i64 x_w] (.agg [.bool R_.There, .bool R_.Write, .bool R_.User, .int .i64 R_.Page]) := by
 unfold F_impl_EntryFrom at hh
 refine Fn.start low_impl_EntryFrom [0] (E := sp 23 [(0, ii x_w)]) kr (v := .agg [bb R_.There, bb R_.Write, bb R_.User, ii R_.Page]) (Hr := []) (k := 0) kr (Aw.sreg [0, 2] [0] ?_)
 let q1 : Root := ⟨116, [bb false, bb false, bb false, ii 0]⟩
 refine yt (sp 23 [(0, ii x_w), (2, pp 0)]) [(0, some q1)] 1 (Aw.seq (Aw.sreg [0, 2, 5] [0] (yj 1  (sp 23 [(0, ii x_w), (2, pp 0), (3, ii x_w)]) [(0, some q1)] 1 ?_)))
 obtain ⟨v1, hv1, hh⟩ := bind_some hh
 refine ys (.call 43 [(.t 3)]) (some 4) (oc (impl_WordOk_fn hv1) ?_)
 refine yt (sp 23 [(0, ii x_w), (2, pp 0), (5, bb (!v1))]) [(0, some q1)] 1 ?_
 rcases cond_some hh with ⟨hb, hh⟩ | ⟨hb, hh⟩
 · refine cT hb (sy [2] [0] (sp 23 [(2, pp 0)]) [(0, some q1)] 1 (Aw.ret (then_r ?_)))
   rw [some_some hh]
   exact gives (r' := .agg [bb false, bb false, bb false, ii 0]) kr (Ent.list [] rfl rfl (Nat.zero_le _) (rens_1 (ren_agg rz)) hs_nil)
 refine cF hb (Aw.xskip (fun _ _ _ hq => then_m hq) (Aw.sreg [2] [0] (ytc [(1 : Int) ≠ 0, (2 : Int) ≠ 0, (2 : Int) ≠ 0, (2 : Int) ≠ 0, (4 : Int) ≠ 0, (2 : Int) ≠ 0, (8 : Int) ≠ 0, (8 : Int) ≠ 0] (sp 23 [(2, pp 0)]) [(0, some ⟨116, [bb (decide ((Int.tmod (w64 (Int.tdiv x_w (1 : Int))) (2 : Int)) = (1 : Int))), bb (decide ((Int.tmod (w64 (Int.tdiv x_w (2 : Int))) (2 : Int)) = (1 : Int))), bb (decide ((Int.tmod (w64 (Int.tdiv x_w (4 : Int))) (2 : Int)) = (1 : Int))), ii (Int.tmod (w64 (Int.tdiv x_w (8 : Int))) (8 : Int))]⟩)] 1 (.cons dd (.cons dd (.cons dd (.cons dd (.cons dd (.cons dd (.cons dd (.cons dd .nil)))))))) (Aw.ret ?_))))
 rw [some_some hh]
 exact gives (r' := .agg [bb (decide ((Int.tmod (w64 (Int.tdiv x_w (1 : Int))) (2 : Int)) = (1 : Int))), bb (decide ((Int.tmod (w64 (Int.tdiv x_w (2 : Int))) (2 : Int)) = (1 : Int))), bb (decide ((Int.tmod (w64 (Int.tdiv x_w (4 : Int))) (2 : Int)) = (1 : Int))), ii (Int.tmod (w64 (Int.tdiv x_w (8 : Int))) (8 : Int))]) kr (Ent.list [] rfl rfl (Nat.zero_le _) (rens_1 (ren_agg rz)) hs_nil)
theorem low_impl_entryOf : LW 77 ⟨35, [(.cell 6 true 4)], (.seq (.reg false (rg 77 0)) (.seq (.reg false (rg 77 1)) (.seq (.seq (.reg false (rg 77 2)) (.cond (.t 17) (.seq (.reg false (rg 77 3)) .ret) .skip)) (.seq (.regd (rg 77 4) (rg 77 5)) (.seq (.reg false (rg 77 6)) .ret)))))⟩ := kr
noncomputable def F_impl_entryOf (x_h : DHost) (x_g : Int) (x_number : Int) : Option DEntry :=
 grd ((0 : Int) ≤ x_g ∧ x_g < ((List.length x_h.Guests : Nat) : Int)) (cond (decide ((((List.getD x_h.Guests (Int.toNat x_g) default).C).Root) = (-1 : Int)))
  (some (DEntry.mk true true true x_number))
  (grd ((0 : Int) ≤ (((List.getD x_h.Guests (Int.toNat x_g) default).C).Root) ∧ (((List.getD x_h.Guests (Int.toNat x_g) default).C).Root) < ((List.length ((List.getD x_h.Guests (Int.toNat x_g) default).Pages) : Nat) : Int)) (Option.bind (F_impl_slotWords x_h.Words (DSlot.mk ((List.getD ((List.getD x_h.Guests (Int.toNat x_g) default).Pages) (Int.toNat (((List.getD x_h.Guests (Int.toNat x_g) default).C).Root)) default).Frame) ((List.getD ((List.getD x_h.Guests (Int.toNat x_g) default).Pages) (Int.toNat (((List.getD x_h.Guests (Int.toNat x_g) default).C).Root)) default).Write) ((List.getD ((List.getD x_h.Guests (Int.toNat x_g) default).Pages) (Int.toNat (((List.getD x_h.Guests (Int.toNat x_g) default).C).Root)) default).Dirty))) fun v1 =>
   grd ((0 : Int) ≤ x_number ∧ x_number < ((List.length v1 : Nat) : Int)) (Option.bind (F_impl_EntryFrom (List.getD v1 (Int.toNat x_number) default)) fun v2 =>
    some v2))))
theorem impl_entryOf_fn {x_h : DHost} {x_g : Int} {x_number : Int} {R_ : DEntry} (hh : F_impl_entryOf x_h x_g x_number = some R_) : Fn Try.prog 77 [.agg (B_26 x_h), .int .i64 x_g, .int .i64 x_number] (.agg [.bool R_.There, .bool R_.Write, .bool R_.User, .int .i64 R_.Page]) := by
 let z3 : EH := (0, some (rB26 x_h)); let z4 := (2, ii x_number); let z5 := (21, bo (eI .i64) x_h.Words); let z6 := (6, pp 1); let z1 := List.getD x_h.Guests (Int.toNat x_g) default; let z7 := (17, bb (decide (((z1.C).Root) = (-1 : Int)))); let z2 := List.getD (z1.Pages) (Int.toNat ((z1.C).Root)) default
 unfold F_impl_entryOf at hh
 refine Fn.start low_impl_entryOf [0, 1, 2] (E := sp 35 [(0, .agg (B_26 x_h)), (1, ii x_g), z4]) kr (v := .agg [bb R_.There, bb R_.Write, bb R_.User, ii R_.Page]) (Hr := []) (k := 0) kr (Aw.sreg [1, 2, 3, 6] [0, 1] ?_)
 let q1 : Root := ⟨116, [bb false, bb false, bb false, ii 0]⟩; let z8 := (1, some q1)
 refine yt (sp 35 [(1, ii x_g), z4, (3, pp 0), z6]) [z3, z8] 2 (Aw.sreg [2, 3, 6, 7] [0, 1, 2] (yu 3 [(9, .ptr 0 [] 1), (10, bo B_108 x_h.Guests), (11, ii x_g)] [z3, z8] 2 ?_))
 obtain ⟨hg2, hh⟩ := grd_some hh
 refine ys (.iadr 17 (.t 10) (.t 11)) (some 12) (op_iadr (kd := .i64) (c := B_108) (xs := x_h.Guests) len_B_108 dd kr kr hg2 ?_)
 refine ys (.load true 17 (.t 12)) (some 13) (op_loadbA (c := B_108) (xs := x_h.Guests) (o := Int.toNat x_g * 17) (i := (Int.toNat x_g)) (off := 0) (v := .agg (B_108 z1)) len_B_108 kr ltn ltn dd kr ?_)
 let q2 : Root := (rB108 z1)
 refine yt (sp 35 [z4, (3, pp 0), z6, (7, pp 2)]) [z3, z8, (2, some q2)] 3 (Aw.seq (sy [2, 3, 6, 7, 17] [0, 1, 2] (sp 35 [z4, (3, pp 0), z6, (7, pp 2), z7]) [z3, z8, (2, some q2)] 3 ?_))
 rcases cond_some hh with ⟨hb, hh⟩ | ⟨hb, hh⟩
 · refine cT hb (sy [6] [1] (sp 35 [z6]) [(1, some ⟨116, [bb true, bb true, bb true, ii x_number]⟩)] 3 (Aw.ret (then_r ?_)))
   rw [some_some hh]
   exact gives (r' := .agg [bb true, bb true, bb true, ii x_number]) kr (Ent.list [] rfl rfl (Nat.zero_le _) (rens_1 (ren_agg rz)) hs_nil)
 refine cF hb (Aw.xskip (fun _ _ _ hq => then_m hq) (Aw.sregd [2, 6, 8] [1] [] kr (dj 7 (sp 35 [z4, (3, pp 0), z6, (7, pp 2), z7, (20, pp 0), z5, (22, .ptr 2 [] 14), (23, bo C_110 (z1.Pages)), (24, .ptr 2 [] 1), (25, .ptr 2 [] 3), (26, ii ((z1.C).Root))]) [z3, z8, (2, some q2)] 3 ?_)))
 obtain ⟨hg4, hh⟩ := grd_some hh
 refine ds (.iadr 3 (.t 23) (.t 26)) (some 27) (ydo_q rfl kr (op_iadr (kd := .i64) (c := C_110) (xs := z1.Pages) len_C_110 dd kr kr hg4 ?_))
 refine ds (.load true 3 (.t 27)) (some 28) (ydo_q rfl kr (op_loadbA (c := C_110) (xs := z1.Pages) (o := Int.toNat ((z1.C).Root) * 3) (i := (Int.toNat ((z1.C).Root))) (off := 0) (v := .agg [ii (z2.Frame), bb (z2.Write), bb (z2.Dirty)]) len_C_110 kr ltn ltn dd kr ?_))
 refine dt (sp 35 [z4, (3, pp 0), z6, (7, pp 2), z7, (20, pp 0), z5, (22, .ptr 2 [] 14), (23, bo C_110 (z1.Pages)), (24, .ptr 2 [] 1), (25, .ptr 2 [] 3), (26, ii ((z1.C).Root)), (27, .bptr (fl C_110 (z1.Pages)) (Int.toNat ((z1.C).Root) * 3)), (28, .agg [ii (z2.Frame), bb (z2.Write), bb (z2.Dirty)])]) [z3, z8, (2, some q2)] 3 ?_
 obtain ⟨v1, hv1, hh⟩ := bind_some hh
 refine ys (.call 97 [(.t 21), (.t 28)]) (some 29) (op_callp (r := bo (eI .i64) v1) (v := bo (eI .i64) v1) (Hr := []) (n' := 3) (impl_slotWords_fn hv1) (clz_v (vs := [bo (eI .i64) x_h.Words, .agg [ii (z2.Frame), bb (z2.Write), bb (z2.Dirty)]]) kr (clz_c (clo_same (clean_bor (cleans_fl cl_eI))) (cz1 clz_n))) nrr kr ?_)
 refine yt (sp 35 [z4, z6, (8, bo (eI .i64) v1)]) [z8] 3 (Aw.sreg [6] [1] (yu 2 [(30, bo (eI .i64) v1), (31, ii x_number)] [z8] 3 ?_))
 obtain ⟨hg6, hh⟩ := grd_some hh
 refine ys (.iadr 1 (.t 30) (.t 31)) (some 32) (op_iadr (kd := .i64) (c := (eI .i64)) (xs := v1) len_eI dd kr kr hg6 ?_)
 refine ys (.load false 1 (.t 32)) (some 33) (op_loadb (c := (eI .i64)) (xs := v1) (o := Int.toNat x_number * 1) (i := (Int.toNat x_number)) (off := 0) (v := ii (List.getD v1 (Int.toNat x_number) default)) len_eI kr ltn ltn dd kr ?_)
 obtain ⟨v2, hv2, hh⟩ := bind_some hh
 refine ys (.call 98 [(.t 33)]) (some 34) (oc (impl_EntryFrom_fn hv2) ?_)
 refine yt (sp 35 [z6]) [(1, some ⟨116, (C_116 v2)⟩)] 3 (Aw.ret ?_)
 rw [some_some hh]
 exact gives (r' := .agg (C_116 v2)) kr (Ent.list [] rfl rfl (Nat.zero_le _) (rens_1 (ren_agg rz)) hs_nil)
theorem low_impl_shadeOf : LW 48 ⟨36, [(.cell 6 true 6)], (.seq (.reg false (rg 48 0)) (.seq (.reg false (rg 48 1)) (.seq (.regd (rg 48 2) (rg 48 3)) (.seq (.reg false (rg 48 4)) .ret))))⟩ := kr
noncomputable def F_impl_shadeOf (x_h : DHost) (x_g : Int) (x_number : Int) : Option DShade :=
 Option.bind (F_impl_entryOf x_h x_g x_number) fun v1 =>
 grd ((0 : Int) ≤ x_g ∧ x_g < ((List.length x_h.Guests : Nat) : Int)) (grd ((0 : Int) ≤ v1.Page ∧ v1.Page < ((List.length ((List.getD x_h.Guests (Int.toNat x_g) default).Pages) : Nat) : Int)) (some (DShade.mk v1.There v1.Write v1.User v1.Page ((List.getD ((List.getD x_h.Guests (Int.toNat x_g) default).Pages) (Int.toNat v1.Page) default).Frame) ((List.getD ((List.getD x_h.Guests (Int.toNat x_g) default).Pages) (Int.toNat v1.Page) default).Write))))
theorem impl_shadeOf_fn {x_h : DHost} {x_g : Int} {x_number : Int} {R_ : DShade} (hh : F_impl_shadeOf x_h x_g x_number = some R_) : Fn Try.prog 48 [.agg (B_26 x_h), .int .i64 x_g, .int .i64 x_number] (.agg (ru45 R_ [])) := by
 let z3 : EH := (0, some (rB26 x_h)); let z4 := (1, ii x_g); let z5 : EH := (1, some ⟨45, (zru45 [])⟩); let z6 : EV := (13, .ptr 0 [] 1); let z7 := (14, bo B_108 x_h.Guests); let z8 := (15, ii x_g); let z9 : EV := (16, .bptr (fl B_108 x_h.Guests) (Int.toNat x_g * 17)); let z10 : EV := (17, .bptr (fl B_108 x_h.Guests) (Int.toNat x_g * 17 + 14)); let z11 := (3, pp 0); let z12 := (6, pp 1); let z13 := (7, pp 2); let z1 := List.getD x_h.Guests (Int.toNat x_g) default
 unfold F_impl_shadeOf at hh
 refine Fn.start low_impl_shadeOf [0, 1, 2] (E := sp 36 [(0, .agg (B_26 x_h)), z4, (2, ii x_number)]) kr (v := .agg (ru45 R_ [])) (Hr := []) (k := 0) kr (sy [1, 2, 3, 6] [0, 1] (sp 36 [z4, (2, ii x_number), z11, z12]) [z3, z5] 2 (Aw.sreg [1, 3, 6, 7] [0, 1, 2] (yu 3 [(9, .agg (B_26 x_h)), (10, ii x_g), (11, ii x_number)] [z3, z5] 2 ?_)))
 obtain ⟨v1, hv1, hh⟩ := bind_some hh
 let z14 : EH := (2, some ⟨116, (C_116 v1)⟩); let z2 := List.getD (z1.Pages) (Int.toNat v1.Page) default
 refine ys (.call 77 [(.t 9), (.t 10), (.t 11)]) (some 12) (op_call (r := .agg (C_116 v1)) (v := .agg (C_116 v1)) (Hr := []) (n' := 2) (impl_entryOf_fn hv1) (clz_v (vs := [.agg (B_26 x_h), ii x_g, ii x_number]) kr (clz_c (clo_same (clean_agg (cl_B_26 _))) (cz1 (cz1 clz_n)))) rfl rfl kr ?_)
 refine yt (sp 36 [z4, z11, z12, z13]) [z3, z5, z14] 3 (Aw.sregd [6, 7, 8] [1, 2, 3] [] kr (dj 3 (sp 36 [z4, z11, z12, z13, z6, z7, z8]) [z3, z5, z14] 3 ?_))
 obtain ⟨hg3, hh⟩ := grd_some hh
 refine ds (.iadr 17 (.t 14) (.t 15)) (some 16) (ydo_q rfl kr (op_iadr (kd := .i64) (c := B_108) (xs := x_h.Guests) len_B_108 dd kr kr hg3 ?_))
 refine dj 1 (sp 36 [z4, z11, z12, z13, z6, z7, z8, z9, z10]) [z3, z5, z14] 3 (ds (.load false 1 (.t 17)) (some 18) (ydo_q rfl kr (op_loadb (c := B_108) (xs := x_h.Guests) (o := Int.toNat x_g * 17 + 14) (i := (Int.toNat x_g)) (off := 14) (v := bo C_110 (z1.Pages)) len_B_108 kr ltn ltn dd kr ?_)))
 refine dj 2 (sp 36 [z4, z11, z12, z13, z6, z7, z8, z9, z10, (18, bo C_110 (z1.Pages)), (19, .ptr 2 [] 3), (20, ii v1.Page)]) [z3, z5, z14] 3 ?_
 obtain ⟨hg4, hh⟩ := grd_some hh
 refine ds (.iadr 3 (.t 18) (.t 20)) (some 21) (ydo_q rfl kr (op_iadr (kd := .i64) (c := C_110) (xs := z1.Pages) len_C_110 dd kr kr hg4 ?_))
 refine ds (.load true 3 (.t 21)) (some 22) (ydo_q rfl kr (op_loadbA (c := C_110) (xs := z1.Pages) (o := Int.toNat v1.Page * 3) (i := (Int.toNat v1.Page)) (off := 0) (v := .agg [ii (z2.Frame), bb (z2.Write), bb (z2.Dirty)]) len_C_110 kr ltn ltn dd kr ?_))
 refine dt (sp 36 [z4, z11, z12, z13, (8, pp 3), z6, z7, z8, z9, z10, (18, bo C_110 (z1.Pages)), (19, .ptr 2 [] 3), (20, ii v1.Page), (21, .bptr (fl C_110 (z1.Pages)) (Int.toNat v1.Page * 3)), (22, .agg [ii (z2.Frame), bb (z2.Write), bb (z2.Dirty)])]) [(3, some ⟨110, [ii 0, bb false, bb false]⟩), z3, z5, z14] 4 (yt (sp 36 [z12, z13, (8, pp 3)]) [z5, z14, (3, some ⟨110, [ii (z2.Frame), bb (z2.Write), bb (z2.Dirty)]⟩)] 4 (sy [6] [1] (sp 36 [z12]) [(1, some ⟨45, [bb v1.There, bb v1.Write, bb v1.User, ii v1.Page, ii (z2.Frame), bb (z2.Write)]⟩)] 4 (Aw.ret ?_)))
 rw [some_some hh]
 exact gives (r' := .agg [bb v1.There, bb v1.Write, bb v1.User, ii v1.Page, ii (z2.Frame), bb (z2.Write)]) kr (Ent.list [] rfl rfl (Nat.zero_le _) (rens_1 (ren_agg rz)) hs_nil)
end Go.Proofs.Ytbnjdmclnojlmaa
