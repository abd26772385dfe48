/- Plain functions of the program, and that it hands back what they say. Made by program. -/
import Derived.Test.YtbnjdmclnojlmaaWT
import Derived.Test.YtbnjdmclnojlmaaProg
namespace Go.Proofs.Ytbnjdmclnojlmaa
open Go.RowKit
set_option maxRecDepth 100000
set_option linter.all false
set_option maxHeartbeats 0
theorem low_impl_entryLets : LW 78 ⟨25, [(.tmp 6)], (.seq (.reg false (rg 78 0)) (.seq (.reg false (rg 78 1)) .ret))⟩ := kr
noncomputable def F_impl_entryLets (x_e : DEntry) (x_user : Bool) (x_write : Bool) : Option Bool :=
 cond x_e.There
  (cond x_e.Write
   (cond x_e.User
    (some true)
    (some (!x_user)))
   (cond (!x_write)
    (cond x_e.User
     (some true)
     (some (!x_user)))
    (some false)))
  (some false)
theorem impl_entryLets_fn {x_e : DEntry} {x_user : Bool} {x_write : Bool} {R_ : Bool} (hh : F_impl_entryLets x_e x_user x_write = some R_) : Fn Try.prog 78 [.agg (C_116 x_e), .bool x_user, .bool x_write] (.bool R_) := by
 let z1 : EH := (0, some ⟨116, (C_116 x_e)⟩)
 unfold F_impl_entryLets at hh
 refine Fn.start low_impl_entryLets [0, 1, 2] (E := sp 25 [(0, .agg (C_116 x_e)), (1, bb x_user), (2, bb x_write)]) kr (v := bb R_) (Hr := []) (k := 0) kr (sy [1, 2, 3] [0] (sp 25 [(1, bb x_user), (2, bb x_write), (3, pp 0)]) [z1] 1 (Aw.sreg [6] [] (yu 3 [(7, pp 0), (8, bb x_e.There), (9, bb x_e.There)] [z1] 1 ?_)))
 rcases cond_sf hh with ⟨hb, hh⟩ | ⟨hb, hh⟩
 · exact yb 8 hb (yb 9 hb (yt (sp 25 [(6, bb false)]) [] 1 (Aw.ret (gvbs hh))))
 refine yb 8 hb (yb 9 hb (yu 3 [(8, bb true), (9, bb true), (10, .ptr 0 [] 1), (11, bb x_e.Write), (12, bb x_e.Write)] [z1] 1 ?_))
 rcases cond_some hh with ⟨hb, hh⟩ | ⟨hb, hh⟩
 · refine yb 11 hb (yb 12 hb (yu 8 [(11, bb true), (12, bb true), (13, .und), (14, .und), (15, bb true), (16, bb true), (17, bb true), (18, .ptr 0 [] 2), (19, bb x_e.User), (20, bb x_e.User)] [z1] 1 ?_))
   rcases cond_sf hh with ⟨hb, hh⟩ | ⟨hb, hh⟩
   · exact yb 19 hb (yb 20 hb (yt (sp 25 [(6, bb (!x_user))]) [] 1 (Aw.ret (gvbs hh))))
   exact yb 19 hb (yb 20 hb (yt (sp 25 [(6, bb true)]) [] 1 (Aw.ret (gvbs hh))))
 refine yb 11 hb (yb 12 hb (yu 5 [(11, bb false), (12, bb false), (13, bb x_write), (14, bb (!x_write)), (15, bb (!x_write)), (16, bb (!x_write)), (17, bb (!x_write))] [z1] 1 ?_))
 rcases cond_sf hh with ⟨hb, hh⟩ | ⟨hb, hh⟩
 · exact yb 14 hb (yb 15 hb (yb 16 hb (yb 17 hb (yt (sp 25 [(6, bb false)]) [] 1 (Aw.ret (gvbs hh))))))
 refine yb 14 hb (yb 15 hb (yb 16 hb (yb 17 hb (yu 3 [(14, bb true), (15, bb true), (16, bb true), (17, bb true), (18, .ptr 0 [] 2), (19, bb x_e.User), (20, bb x_e.User)] [z1] 1 ?_))))
 rcases cond_sf hh with ⟨hb, hh⟩ | ⟨hb, hh⟩
 · exact yb 19 hb (yb 20 hb (yt (sp 25 [(6, bb (!x_user))]) [] 1 (Aw.ret (gvbs hh))))
 exact yb 19 hb (yb 20 hb (yt (sp 25 [(6, bb true)]) [] 1 (Aw.ret (gvbs hh))))
theorem low_impl_shadeLeads : LW 49 ⟨40, [(.tmp 8), (.tmp 9)], (.seq (.reg false (rg 49 0)) (.seq (.reg false (rg 49 1)) (.seq (.seq (.reg false (rg 49 2)) (.cond (.t 24) (.seq (.reg false (rg 49 3)) .ret) .skip)) (.seq (.seq (.reg false (rg 49 4)) (.cond (.t 27) (.seq (.reg false (rg 49 5)) .ret) .skip)) (.seq (.seq (.reg false (rg 49 6)) (.cond (.t 33) (.seq (.reg false (rg 49 7)) .ret) .skip)) (.seq (.reg false (rg 49 8)) .ret))))))⟩ := kr
noncomputable def F_impl_shadeLeads_j2 (x_s : DShade) (x_addr : Int) (s2 : Unit) : Option (Int × Int) :=
 some ((w64 ((w64 (x_s.Frame * (8 : Int))) + (Int.tmod x_addr (8 : Int)))), (0 : Int))
noncomputable def F_impl_shadeLeads (x_s : DShade) (x_addr : Int) (x_user : Bool) (x_write : Bool) : Option (Int × Int) :=
 Option.bind (F_impl_entryLets (DEntry.mk x_s.There x_s.Write x_s.User x_s.Page) x_user x_write) fun v1 =>
 cond (!v1)
  (some ((-1 : Int), (1 : Int)))
  (cond (decide (x_s.Frame = (-1 : Int)))
   (some ((-1 : Int), (2 : Int)))
   (Option.bind (cond x_write
    (cond (!x_s.Ready)
     (some (.out ((-1 : Int), (3 : Int))))
     (some (.go ())))
    (some (.go ()))) fun j2 =>
    JO.run j2 (F_impl_shadeLeads_j2 x_s x_addr)))
theorem impl_shadeLeads_fn {x_s : DShade} {x_addr : Int} {x_user : Bool} {x_write : Bool} {R_ : Int × Int} (hh : F_impl_shadeLeads x_s x_addr x_user x_write = some R_) : Fn Try.prog 49 [.agg (C_45 x_s), .int .i64 x_addr, .bool x_user, .bool x_write] (.tup [.int .i64 R_.1, .int .i64 R_.2]) := by
 let z1 : EH := (0, some ⟨45, (C_45 x_s)⟩); let z2 := (1, ii x_addr); let z3 := (2, bb x_user); let z4 := (27, bb (decide (x_s.Frame = (-1 : Int)))); let z5 := (3, bb x_write); let z6 := (4, pp 0)
 unfold F_impl_shadeLeads at hh
 refine Fn.start low_impl_shadeLeads [0, 1, 2, 3] (E := sp 40 [(0, .agg (C_45 x_s)), z2, z3, z5]) kr (v := .tup [ii R_.1, ii R_.2]) (Hr := []) (k := 0) kr (sy [1, 2, 3, 4] [0] (sp 40 [z2, z3, z5, z6]) [z1] 1 (Aw.sreg [1, 2, 3, 4, 10] [0, 1] ?_))
 let q1 : Root := ⟨116, [bb x_s.There, bb x_s.Write, bb x_s.User, ii x_s.Page]⟩
 refine yt (sp 40 [z2, z3, z5, z6, (10, pp 1)]) [z1, (1, some q1)] 2 (Aw.seq (Aw.sreg [1, 3, 4, 24] [0] (yj 3  (sp 40 [z2, z3, z5, z6, (10, pp 1), (20, .agg [bb x_s.There, bb x_s.Write, bb x_s.User, ii x_s.Page]), (21, bb x_user), (22, bb x_write)]) [z1, (1, some q1)] 2 ?_)))
 obtain ⟨v1, hv1, hh⟩ := bind_some hh
 refine ys (.call 78 [(.t 20), (.t 21), (.t 22)]) (some 23) (oc (impl_entryLets_fn hv1) ?_)
 refine yt (sp 40 [z2, z5, z6, (24, bb (!v1))]) [z1] 2 ?_
 rcases cond_some hh with ⟨hb, hh⟩ | ⟨hb, hh⟩
 · refine cT hb (sy [8, 9] [] (sp 40 [(8, ii (-1)), (9, ii 1)]) [] 2 (Aw.ret (then_r ?_)))
   rw [some_some hh]
   exact gives (r' := .tup [ii (-1), ii 1]) kr (Ent.list [] rfl rfl (Nat.zero_le _) (rens_1 (ren_tup rz)) hs_nil)
 refine cF hb (Aw.xskip (fun _ _ _ hq => then_m hq) (Aw.seq (sy [1, 3, 4, 27] [0] (sp 40 [z2, z5, z6, z4]) [z1] 2 ?_)))
 rcases cond_some hh with ⟨hb, hh⟩ | ⟨hb, hh⟩
 · refine cT hb (sy [8, 9] [] (sp 40 [(8, ii (-1)), (9, ii 2)]) [] 2 (Aw.ret (then_r ?_)))
   rw [some_some hh]
   exact gives (r' := .tup [ii (-1), ii 2]) kr (Ent.list [] rfl rfl (Nat.zero_le _) (rens_1 (ren_tup rz)) hs_nil)
 refine cF hb (Aw.xskip (fun _ _ _ hq => then_m hq) ?_)
 obtain ⟨j2, hh, hk2⟩ := bind_some hh
 refine Aw.join (S := Unit) (fun s2 => sp 40 [(1, ii x_addr), (4, pp 0)]) (fun s2 => [(0, some ⟨45, (C_45 x_s)⟩)]) 1 (fun s2 => F_impl_shadeLeads_j2 x_s x_addr s2 = some R_) ?_ ?_
 · intro s2 hh
   unfold F_impl_shadeLeads_j2 at hh
   refine Aw.sreg [8, 9] [] (ytc [(8 : Int) ≠ 0] (sp 40 [(8, ii (w64 ((w64 (x_s.Frame * (8 : Int))) + (Int.tmod x_addr (8 : Int))))), (9, ii 0)]) [] 1 (.cons dd .nil) (Aw.ret ?_))
   rw [some_some hh]
   exact gives (r' := .tup [ii (w64 ((w64 (x_s.Frame * (8 : Int))) + (Int.tmod x_addr (8 : Int)))), ii 0]) kr (Ent.list [] rfl rfl (Nat.zero_le _) (rens_1 (ren_tup rz)) hs_nil)
 intro Q2 hN2 hR2 hE2
 refine Aw.sreg [1, 4, 33] [0] (yj 2  (sp 40 [z2, z5, z6, z4, (28, bb x_write), (29, bb x_write)]) [z1] 2 ?_)
 rcases cond_sf hh with ⟨hb, hh⟩ | ⟨hb, hh⟩
 · refine yb 3 hb (yb 28 hb (yb 29 hb (yt (sp 40 [z2, z6, (33, bb false)]) [z1] 2 (cF rfl (Aw.skip ?_)))))
   obtain rfl := some_some hh
   exact hN2 () _ _ _ hk2 (el [some 0] (rens_sp kr (ri (rp 0 rl_n))) (hq ⟨45, (C_45 x_s)⟩ (rens_same (nr_C_45 _)) hs_nil))
 refine yb 3 hb (yb 28 hb (yb 29 hb (yt (sp 40 [z2, z6, (33, bb (!x_s.Ready))]) [z1] 2 ?_)))
 rcases cond_sf hh with ⟨hb, hh⟩ | ⟨hb, hh⟩
 · refine cF hb (Aw.skip ?_)
   obtain rfl := some_some hh
   exact hN2 () _ _ _ hk2 (el [some 0] (rens_sp kr (ri (rp 0 rl_n))) (hq ⟨45, (C_45 x_s)⟩ (rens_same (nr_C_45 _)) hs_nil))
 refine cT hb (sy [8, 9] [] (sp 40 [(8, ii (-1)), (9, ii 3)]) [] 2 (Aw.ret ?_))
 obtain rfl := some_some hh
 refine hR2 _ _ _ ?_
 rw [some_some hk2]
 exact gives (r' := .tup [ii (-1), ii 3]) kr (Ent.list [] rfl rfl (Nat.zero_le _) (rens_1 (ren_tup rz)) hs_nil)
theorem low_spec_l5Place : LW 52 ⟨53, [(.tmp 8), (.tmp 9)], (.seq (.reg false (rg 52 0)) (.seq (.reg false (rg 52 1)) (.seq (.block 0 (.seq (.reg false (rg 52 2)) (.cond (.t 16) (.seq (.reg false (rg 52 3)) .ret) (.seq (.reg false (rg 52 4)) (.cond (.t 36) (.seq (.reg false (rg 52 5)) .ret) (.seq (.reg false (rg 52 6)) (.cond (.t 40) (.seq (.reg false (rg 52 7)) .ret) .skip))))))) (.seq (.reg false (rg 52 8)) .ret))))⟩ := kr
noncomputable def F_spec_l5Place_j1 (x_table : List DShade) (x_addr : Int) (s1 : Unit) : Option (Int × Int) :=
 some ((w64 ((w64 (((List.getD x_table (Int.toNat (w64 (Int.tdiv x_addr (8 : Int)))) default).Frame) * (8 : Int))) + (Int.tmod x_addr (8 : Int)))), (0 : Int))
noncomputable def F_spec_l5Place (x_table : List DShade) (x_addr : Int) (x_user : Bool) (x_write : Bool) : Option (Int × Int) :=
 grd ((0 : Int) ≤ (w64 (Int.tdiv x_addr (8 : Int))) ∧ (w64 (Int.tdiv x_addr (8 : Int))) < ((List.length x_table : Nat) : Int)) (Option.bind (cond (!((List.getD x_table (Int.toNat (w64 (Int.tdiv x_addr (8 : Int)))) default).There))
  (some (.out ((-1 : Int), (1 : Int))))
  (cond x_write
   (cond (!((List.getD x_table (Int.toNat (w64 (Int.tdiv x_addr (8 : Int)))) default).Write))
    (some (.out ((-1 : Int), (1 : Int))))
    (cond x_user
     (cond (!((List.getD x_table (Int.toNat (w64 (Int.tdiv x_addr (8 : Int)))) default).User))
      (some (.out ((-1 : Int), (1 : Int))))
      (cond (decide (((List.getD x_table (Int.toNat (w64 (Int.tdiv x_addr (8 : Int)))) default).Frame) < (0 : Int)))
       (some (.out ((-1 : Int), (2 : Int))))
       (cond (!((List.getD x_table (Int.toNat (w64 (Int.tdiv x_addr (8 : Int)))) default).Ready))
        (some (.out ((-1 : Int), (3 : Int))))
        (some (.go ())))))
     (cond (decide (((List.getD x_table (Int.toNat (w64 (Int.tdiv x_addr (8 : Int)))) default).Frame) < (0 : Int)))
      (some (.out ((-1 : Int), (2 : Int))))
      (cond (!((List.getD x_table (Int.toNat (w64 (Int.tdiv x_addr (8 : Int)))) default).Ready))
       (some (.out ((-1 : Int), (3 : Int))))
       (some (.go ()))))))
   (cond x_user
    (cond (!((List.getD x_table (Int.toNat (w64 (Int.tdiv x_addr (8 : Int)))) default).User))
     (some (.out ((-1 : Int), (1 : Int))))
     (cond (decide (((List.getD x_table (Int.toNat (w64 (Int.tdiv x_addr (8 : Int)))) default).Frame) < (0 : Int)))
      (some (.out ((-1 : Int), (2 : Int))))
      (some (.go ()))))
    (cond (decide (((List.getD x_table (Int.toNat (w64 (Int.tdiv x_addr (8 : Int)))) default).Frame) < (0 : Int)))
     (some (.out ((-1 : Int), (2 : Int))))
     (some (.go ())))))) fun j1 =>
  JO.run j1 (F_spec_l5Place_j1 x_table x_addr))
theorem spec_l5Place_fn {x_table : List DShade} {x_addr : Int} {x_user : Bool} {x_write : Bool} {R_ : Int × Int} (hh : F_spec_l5Place x_table x_addr x_user x_write = some R_) : Fn Try.prog 52 [bo C_45 x_table, .int .i64 x_addr, .bool x_user, .bool x_write] (.tup [.int .i64 R_.1, .int .i64 R_.2]) := by
 let z2 := (0, bo C_45 x_table); let z3 := (1, ii x_addr); let z4 := (10, pp 0); let z5 := (2, bb x_user); let z6 := (3, bb false); let z7 := (3, bb true); let z8 := (3, bb x_write); let z9 := (8, ii (-1)); let z1 := List.getD x_table (Int.toNat (w64 (Int.tdiv x_addr (8 : Int)))) default; let z10 := (36, bb (decide ((z1.Frame) < (0 : Int))))
 unfold F_spec_l5Place at hh
 refine Fn.start low_spec_l5Place [0, 1, 2, 3] (E := sp 53 [z2, z3, z5, z8]) kr (v := .tup [ii R_.1, ii R_.2]) (Hr := []) (k := 0) kr (sy [0, 1, 2, 3] [] (sp 53 [z2, z3, z5, z8]) [] 0 (Aw.sreg [1, 2, 3, 10] [0] (yjc 3 [(8 : Int) ≠ 0] (sp 53 [z2, z3, z5, z8, (11, bo C_45 x_table), (12, ii x_addr), (13, ii (w64 (Int.tdiv x_addr (8 : Int))))]) [] 0 (.cons dd .nil) ?_)))
 obtain ⟨hg2, hh⟩ := grd_some hh
 refine ys (.iadr 6 (.t 11) (.t 13)) (some 14) (op_iadr (kd := .i64) (c := C_45) (xs := x_table) len_C_45 dd kr kr hg2 ?_)
 refine ys (.load true 6 (.t 14)) (some 15) (op_loadbA (c := C_45) (xs := x_table) (o := Int.toNat (w64 (Int.tdiv x_addr (8 : Int))) * 6) (i := (Int.toNat (w64 (Int.tdiv x_addr (8 : Int))))) (off := 0) (v := .agg [bb (z1.There), bb (z1.Write), bb (z1.User), ii (z1.Page), ii (z1.Frame), bb (z1.Ready)]) len_C_45 kr ltn ltn dd kr ?_)
 let q1 : Root := ⟨45, [bb (z1.There), bb (z1.Write), bb (z1.User), ii (z1.Page), ii (z1.Frame), bb (z1.Ready)]⟩; let z11 := (0, some q1)
 refine yt (sp 53 [z3, z5, z8, z4]) [z11] 1 ?_
 obtain ⟨j1, hh, hk1⟩ := bind_some hh
 refine Aw.join (S := Unit) (fun s1 => sp 53 [(1, ii x_addr), (10, pp 0)]) (fun s1 => [(0, some ⟨45, [bb ((List.getD x_table (Int.toNat (w64 (Int.tdiv x_addr (8 : Int)))) default).There), bb ((List.getD x_table (Int.toNat (w64 (Int.tdiv x_addr (8 : Int)))) default).Write), bb ((List.getD x_table (Int.toNat (w64 (Int.tdiv x_addr (8 : Int)))) default).User), ii ((List.getD x_table (Int.toNat (w64 (Int.tdiv x_addr (8 : Int)))) default).Page), ii ((List.getD x_table (Int.toNat (w64 (Int.tdiv x_addr (8 : Int)))) default).Frame), bb ((List.getD x_table (Int.toNat (w64 (Int.tdiv x_addr (8 : Int)))) default).Ready)]⟩)]) 1 (fun s1 => F_spec_l5Place_j1 x_table x_addr s1 = some R_) ?_ ?_
 · intro s1 hh
   unfold F_spec_l5Place_j1 at hh
   refine Aw.sreg [8, 9] [] (ytc [(8 : Int) ≠ 0] (sp 53 [(8, ii (w64 ((w64 ((z1.Frame) * (8 : Int))) + (Int.tmod x_addr (8 : Int))))), (9, ii 0)]) [] 1 (.cons dd .nil) (Aw.ret ?_))
   rw [some_some hh]
   exact gives (r' := .tup [ii (w64 ((w64 ((z1.Frame) * (8 : Int))) + (Int.tmod x_addr (8 : Int)))), ii 0]) kr (Ent.list [] rfl rfl (Nat.zero_le _) (rens_1 (ren_tup rz)) hs_nil)
 intro Q1 hN1 hR1 hE1
 refine Aw.block (Aw.sreg [1, 3, 10, 16] [0] (yj 4  (sp 53 [z3, z5, z8, z4, (17, pp 0), (18, bb (z1.There)), (19, bb (!(z1.There))), (20, bb (!(z1.There)))]) [z11] 1 ?_))
 rcases cond_some hh with ⟨hb, hh⟩ | ⟨hb, hh⟩
 · refine yb 19 hb (yb 20 hb (yt (sp 53 [z3, z8, z4, (16, bb true)]) [z11] 1 (cT rfl (sy [8, 9] [] (sp 53 [z9, (9, ii 1)]) [] 1 (Aw.ret (blk_r ?_))))))
   obtain rfl := some_some hh
   refine hR1 _ _ _ ?_
   rw [some_some hk1]
   exact gives (r' := .tup [ii (-1), ii 1]) kr (Ent.list [] rfl rfl (Nat.zero_le _) (rens_1 (ren_tup rz)) hs_nil)
 refine yb 19 hb (yb 20 hb (yu 2 [(19, bb false), (20, bb false), (21, bb x_write), (22, bb x_write)] [z11] 1 ?_))
 rcases cond_sf hh with ⟨hb, hh⟩ | ⟨hb, hh⟩
 · refine yb 3 hb (yb 21 hb (yb 22 hb (yu 8 [z6, (21, bb false), (22, bb false), (23, .und), (24, .und), (25, .und), (26, bb false), (27, bb false), (28, bb false), (29, bb x_user), (30, bb x_user)] [z11] 1 ?_)))
   rcases cond_sf hh with ⟨hb, hh⟩ | ⟨hb, hh⟩
   · refine yb 2 hb (yb 29 hb (yb 30 hb (yt (sp 53 [z3, z6, z4, (16, bb false)]) [z11] 1 (cF rfl (sy [1, 3, 10, 36] [0] (sp 53 [z3, z6, z4, z10]) [z11] 1 ?_)))))
     rcases cond_sf hh with ⟨hb, hh⟩ | ⟨hb, hh⟩
     · refine cF hb (sy [1, 10, 40] [0] (sp 53 [z3, z4, (40, bb false)]) [z11] 1 (cF rfl (Aw.skip (blk_m ?_))))
       obtain rfl := some_some hh
       exact hN1 () _ _ _ hk1 (el [some 0] (rens_sp kr (ri (rp 0 rl_n))) (hq q1 rz hs_nil))
     refine cT hb (sy [8, 9] [] (sp 53 [z9, (9, ii 2)]) [] 1 (Aw.ret (blk_r ?_)))
     obtain rfl := some_some hh
     refine hR1 _ _ _ ?_
     rw [some_some hk1]
     exact gives (r' := .tup [ii (-1), ii 2]) kr (Ent.list [] rfl rfl (Nat.zero_le _) (rens_1 (ren_tup rz)) hs_nil)
   refine yb 2 hb (yb 29 hb (yb 30 hb (yt (sp 53 [z3, z6, z4, (16, bb (!(z1.User)))]) [z11] 1 ?_)))
   rcases cond_some hh with ⟨hb, hh⟩ | ⟨hb, hh⟩
   · refine cT hb (sy [8, 9] [] (sp 53 [z9, (9, ii 1)]) [] 1 (Aw.ret (blk_r ?_)))
     obtain rfl := some_some hh
     refine hR1 _ _ _ ?_
     rw [some_some hk1]
     exact gives (r' := .tup [ii (-1), ii 1]) kr (Ent.list [] rfl rfl (Nat.zero_le _) (rens_1 (ren_tup rz)) hs_nil)
   refine cF hb (sy [1, 3, 10, 36] [0] (sp 53 [z3, z6, z4, z10]) [z11] 1 ?_)
   rcases cond_sf hh with ⟨hb, hh⟩ | ⟨hb, hh⟩
   · refine cF hb (sy [1, 10, 40] [0] (sp 53 [z3, z4, (40, bb false)]) [z11] 1 (cF rfl (Aw.skip (blk_m ?_))))
     obtain rfl := some_some hh
     exact hN1 () _ _ _ hk1 (el [some 0] (rens_sp kr (ri (rp 0 rl_n))) (hq q1 rz hs_nil))
   refine cT hb (sy [8, 9] [] (sp 53 [z9, (9, ii 2)]) [] 1 (Aw.ret (blk_r ?_)))
   obtain rfl := some_some hh
   refine hR1 _ _ _ ?_
   rw [some_some hk1]
   exact gives (r' := .tup [ii (-1), ii 2]) kr (Ent.list [] rfl rfl (Nat.zero_le _) (rens_1 (ren_tup rz)) hs_nil)
 refine yb 3 hb (yb 21 hb (yb 22 hb (yu 6 [z7, (21, bb true), (22, bb true), (23, .ptr 0 [] 1), (24, bb (z1.Write)), (25, bb (!(z1.Write))), (26, bb (!(z1.Write))), (27, bb (!(z1.Write))), (28, bb (!(z1.Write)))] [z11] 1 ?_)))
 rcases cond_some hh with ⟨hb, hh⟩ | ⟨hb, hh⟩
 · refine yb 25 hb (yb 26 hb (yb 27 hb (yb 28 hb (yt (sp 53 [z3, z7, z4, (16, bb true)]) [z11] 1 (cT rfl (sy [8, 9] [] (sp 53 [z9, (9, ii 1)]) [] 1 (Aw.ret (blk_r ?_))))))))
   obtain rfl := some_some hh
   refine hR1 _ _ _ ?_
   rw [some_some hk1]
   exact gives (r' := .tup [ii (-1), ii 1]) kr (Ent.list [] rfl rfl (Nat.zero_le _) (rens_1 (ren_tup rz)) hs_nil)
 refine yb 25 hb (yb 26 hb (yb 27 hb (yb 28 hb (yu 2 [(25, bb false), (26, bb false), (27, bb false), (28, bb false), (29, bb x_user), (30, bb x_user)] [z11] 1 ?_))))
 rcases cond_sf hh with ⟨hb, hh⟩ | ⟨hb, hh⟩
 · refine yb 2 hb (yb 29 hb (yb 30 hb (yt (sp 53 [z3, z7, z4, (16, bb false)]) [z11] 1 (cF rfl (sy [1, 3, 10, 36] [0] (sp 53 [z3, z7, z4, z10]) [z11] 1 ?_)))))
   rcases cond_some hh with ⟨hb, hh⟩ | ⟨hb, hh⟩
   · refine cT hb (sy [8, 9] [] (sp 53 [z9, (9, ii 2)]) [] 1 (Aw.ret (blk_r ?_)))
     obtain rfl := some_some hh
     refine hR1 _ _ _ ?_
     rw [some_some hk1]
     exact gives (r' := .tup [ii (-1), ii 2]) kr (Ent.list [] rfl rfl (Nat.zero_le _) (rens_1 (ren_tup rz)) hs_nil)
   refine cF hb (sy [1, 10, 40] [0] (sp 53 [z3, z4, (40, bb (!(z1.Ready)))]) [z11] 1 ?_)
   rcases cond_sf hh with ⟨hb, hh⟩ | ⟨hb, hh⟩
   · refine cF hb (Aw.skip (blk_m ?_))
     obtain rfl := some_some hh
     exact hN1 () _ _ _ hk1 (el [some 0] (rens_sp kr (ri (rp 0 rl_n))) (hq q1 rz hs_nil))
   refine cT hb (sy [8, 9] [] (sp 53 [z9, (9, ii 3)]) [] 1 (Aw.ret (blk_r ?_)))
   obtain rfl := some_some hh
   refine hR1 _ _ _ ?_
   rw [some_some hk1]
   exact gives (r' := .tup [ii (-1), ii 3]) kr (Ent.list [] rfl rfl (Nat.zero_le _) (rens_1 (ren_tup rz)) hs_nil)
 refine yb 2 hb (yb 29 hb (yb 30 hb (yt (sp 53 [z3, z7, z4, (16, bb (!(z1.User)))]) [z11] 1 ?_)))
 rcases cond_some hh with ⟨hb, hh⟩ | ⟨hb, hh⟩
 · refine cT hb (sy [8, 9] [] (sp 53 [z9, (9, ii 1)]) [] 1 (Aw.ret (blk_r ?_)))
   obtain rfl := some_some hh
   refine hR1 _ _ _ ?_
   rw [some_some hk1]
   exact gives (r' := .tup [ii (-1), ii 1]) kr (Ent.list [] rfl rfl (Nat.zero_le _) (rens_1 (ren_tup rz)) hs_nil)
 refine cF hb (sy [1, 3, 10, 36] [0] (sp 53 [z3, z7, z4, z10]) [z11] 1 ?_)
 rcases cond_some hh with ⟨hb, hh⟩ | ⟨hb, hh⟩
 · refine cT hb (sy [8, 9] [] (sp 53 [z9, (9, ii 2)]) [] 1 (Aw.ret (blk_r ?_)))
   obtain rfl := some_some hh
   refine hR1 _ _ _ ?_
   rw [some_some hk1]
   exact gives (r' := .tup [ii (-1), ii 2]) kr (Ent.list [] rfl rfl (Nat.zero_le _) (rens_1 (ren_tup rz)) hs_nil)
 refine cF hb (sy [1, 10, 40] [0] (sp 53 [z3, z4, (40, bb (!(z1.Ready)))]) [z11] 1 ?_)
 rcases cond_sf hh with ⟨hb, hh⟩ | ⟨hb, hh⟩
 · refine cF hb (Aw.skip (blk_m ?_))
   obtain rfl := some_some hh
   exact hN1 () _ _ _ hk1 (el [some 0] (rens_sp kr (ri (rp 0 rl_n))) (hq q1 rz hs_nil))
 refine cT hb (sy [8, 9] [] (sp 53 [z9, (9, ii 3)]) [] 1 (Aw.ret (blk_r ?_)))
 obtain rfl := some_some hh
 refine hR1 _ _ _ ?_
 rw [some_some hk1]
 exact gives (r' := .tup [ii (-1), ii 3]) kr (Ent.list [] rfl rfl (Nat.zero_le _) (rens_1 (ren_tup rz)) hs_nil)
end Go.Proofs.Ytbnjdmclnojlmaa
