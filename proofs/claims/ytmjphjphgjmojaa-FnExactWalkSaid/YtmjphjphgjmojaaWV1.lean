/- Plain functions of the program, and that it hands back what they say. Made by program. -/
import Derived.Test.YtmjphjphgjmojaaWT
import Derived.Test.YtmjphjphgjmojaaProg
import Derived.Test.YtmjphjphgjmojaaWN1
import Derived.Test.YtmjphjphgjmojaaWO1
namespace Go.Proofs.Ytmjphjphgjmojaa
open Go.RowKit
set_option maxRecDepth 100000
set_option linter.all false
set_option maxHeartbeats 0
def Lf20_r0 : List LOper := [oo 2 (.mv (.c (bb false)))]
def Lf20_r1 : List LOper := [om 3 0, oo 4 (.bin .leq (.c (ii 0)) (.t 3)), om 5 4, ⟨(some 6), (.mv (.t 0)), (some (5, true))⟩, ⟨(some 7), (.bin .lss (.t 6) (.c (ii 8))), (some (5, true))⟩, oo 8 (.pick (.t 5) (.t 7) (.c (bb false))), om 2 8]
def Lf20 : LFun := ⟨9, [(.tmp 2)], (.seq (.reg false Lf20_r0) (.seq (.reg false Lf20_r1) .ret))⟩
theorem low_impl_pageOk : lowFun Go.Proofs.Try.prog 20 = some Lf20 := by kernel_rfl
noncomputable def F_impl_pageOk (x_page : Int) : Option Bool :=
 cond (decide ((0 : Int) ≤ x_page))
  (some (decide (x_page < (8 : Int))))
  (some false)
theorem impl_pageOk_fn {x_page : Int} {R_ : Bool} (hh : F_impl_pageOk x_page = some R_) : Fn Try.prog 20 [.int .i64 x_page] (.bool R_) := by
 unfold F_impl_pageOk at hh
 refine Fn.start low_impl_pageOk [0] (E := sp 9 [(0, ii x_page)]) (by kernel_rfl) (v := bb R_) (Hr := []) (k := 0) (by kernel_rfl) ?_
 refine sy [0] [] (sp 9 [(0, ii x_page)]) [] 0 ?_
 refine Aw.sreg [2] [] (yu 3 [(3, ii x_page), (4, bb (decide ((0 : Int) ≤ x_page))), (5, bb (decide ((0 : Int) ≤ x_page)))] [] 0 ?_)
 rcases cond_some hh with ⟨hb, hh⟩ | ⟨hb, hh⟩
 · refine yb 4 hb ?_
   refine yb 5 hb ?_
   refine yt (sp 9 [(2, bb (decide (x_page < (8 : Int))))]) [] 0 ?_
   refine Aw.ret ?_
   rw [some_some hh]
   exact gvb
 refine yb 4 hb ?_
 refine yb 5 hb ?_
 refine yt (sp 9 [(2, bb false)]) [] 0 ?_
 refine Aw.ret ?_
 rw [some_some hh]
 exact gvb
def Lf15_r0 : List LOper := [oo 2 (.mv (.c (bb false)))]
def Lf15_r1 : List LOper := [om 3 0, oo 4 (.bin .eql (.t 3) (.c (ii (-1)))), om 5 4, ⟨(some 6), (.mv (.t 0)), (some (5, false))⟩, ⟨(some 7), (.call 20 [(.t 6)]), (some (5, false))⟩, oo 8 (.pick (.t 5) (.c (bb true)) (.t 7)), om 2 8]
def Lf15 : LFun := ⟨9, [(.tmp 2)], (.seq (.reg false Lf15_r0) (.seq (.reg false Lf15_r1) .ret))⟩
theorem low_impl_rootOk : lowFun Go.Proofs.Try.prog 15 = some Lf15 := by kernel_rfl
noncomputable def F_impl_rootOk (x_root : Int) : Option Bool :=
 cond (decide (x_root = (-1 : Int)))
  (some true)
  (Option.bind (F_impl_pageOk x_root) fun v1 =>
  some v1)
theorem impl_rootOk_fn {x_root : Int} {R_ : Bool} (hh : F_impl_rootOk x_root = some R_) : Fn Try.prog 15 [.int .i64 x_root] (.bool R_) := by
 unfold F_impl_rootOk at hh
 refine Fn.start low_impl_rootOk [0] (E := sp 9 [(0, ii x_root)]) (by kernel_rfl) (v := bb R_) (Hr := []) (k := 0) (by kernel_rfl) ?_
 refine sy [0] [] (sp 9 [(0, ii x_root)]) [] 0 ?_
 refine Aw.sreg [2] [] (yu 3 [(3, ii x_root), (4, bb (decide (x_root = (-1 : Int)))), (5, bb (decide (x_root = (-1 : Int))))] [] 0 ?_)
 rcases cond_some hh with ⟨hb, hh⟩ | ⟨hb, hh⟩
 · refine yb 4 hb ?_
   refine yb 5 hb ?_
   refine yt (sp 9 [(2, bb true)]) [] 0 ?_
   refine Aw.ret ?_
   rw [some_some hh]
   exact gvb
 refine yb 4 hb ?_
 refine yb 5 hb ?_
 refine yu 1 [(4, bb false), (5, bb false), (6, ii x_root)] [] 0 ?_
 obtain ⟨v1, hv1, hh⟩ := bind_some hh
 refine yg (.call 20 [(.t 6)]) (some 7) 5 false (oc (impl_pageOk_fn hv1) ?_)
 refine yt (sp 9 [(2, bb v1)]) [] 0 ?_
 refine Aw.ret ?_
 rw [some_some hh]
 exact gvb
def Lf16_r0 : List LOper := [oo 2 (.mv (.c (bb false)))]
def Lf16_r1 : List LOper := [om 3 0, oo 4 (.bin .leq (.c (ii 0)) (.t 3)), om 5 4, ⟨(some 6), (.mv (.t 0)), (some (5, true))⟩, ⟨(some 7), (.bin .lss (.t 6) (.c (ii 64))), (some (5, true))⟩, oo 8 (.pick (.t 5) (.t 7) (.c (bb false))), om 2 8]
def Lf16 : LFun := ⟨9, [(.tmp 2)], (.seq (.reg false Lf16_r0) (.seq (.reg false Lf16_r1) .ret))⟩
theorem low_impl_addressOk : lowFun Go.Proofs.Try.prog 16 = some Lf16 := by kernel_rfl
noncomputable def F_impl_addressOk (x_addr : Int) : Option Bool :=
 cond (decide ((0 : Int) ≤ x_addr))
  (some (decide (x_addr < (64 : Int))))
  (some false)
theorem impl_addressOk_fn {x_addr : Int} {R_ : Bool} (hh : F_impl_addressOk x_addr = some R_) : Fn Try.prog 16 [.int .i64 x_addr] (.bool R_) := by
 unfold F_impl_addressOk at hh
 refine Fn.start low_impl_addressOk [0] (E := sp 9 [(0, ii x_addr)]) (by kernel_rfl) (v := bb R_) (Hr := []) (k := 0) (by kernel_rfl) ?_
 refine sy [0] [] (sp 9 [(0, ii x_addr)]) [] 0 ?_
 refine Aw.sreg [2] [] (yu 3 [(3, ii x_addr), (4, bb (decide ((0 : Int) ≤ x_addr))), (5, bb (decide ((0 : Int) ≤ x_addr)))] [] 0 ?_)
 rcases cond_some hh with ⟨hb, hh⟩ | ⟨hb, hh⟩
 · refine yb 4 hb ?_
   refine yb 5 hb ?_
   refine yt (sp 9 [(2, bb (decide (x_addr < (64 : Int))))]) [] 0 ?_
   refine Aw.ret ?_
   rw [some_some hh]
   exact gvb
 refine yb 4 hb ?_
 refine yb 5 hb ?_
 refine yt (sp 9 [(2, bb false)]) [] 0 ?_
 refine Aw.ret ?_
 rw [some_some hh]
 exact gvb
def Lf18_r0 : List LOper := [oo 3 (.box 31 (.t 0)), oo 6 (.mv (.c (bb false)))]
def Lf18_r1 : List LOper := [oo 7 (.fadr 0 (.t 3)), oo 8 (.load false 1 (.t 7)), om 9 8, ⟨(some 10), (.fadr 1 (.t 3)), (some (9, true))⟩, ⟨(some 11), (.load false 1 (.t 10)), (some (9, true))⟩, ⟨(some 12), (.mv (.t 11)), (some (9, true))⟩, ⟨(some 13), (.mv (.t 2)), (some (12, false))⟩, ⟨(some 14), (.un .not (.t 13)), (some (12, false))⟩, ⟨(some 15), (.pick (.t 12) (.c (bb true)) (.t 14)), (some (9, true))⟩, oo 16 (.pick (.t 9) (.t 15) (.c (bb false))), om 17 16, ⟨(some 18), (.fadr 2 (.t 3)), (some (17, true))⟩, ⟨(some 19), (.load false 1 (.t 18)), (some (17, true))⟩, ⟨(some 20), (.mv (.t 19)), (some (17, true))⟩, ⟨(some 21), (.mv (.t 1)), (some (20, false))⟩, ⟨(some 22), (.un .not (.t 21)), (some (20, false))⟩, ⟨(some 23), (.pick (.t 20) (.c (bb true)) (.t 22)), (some (17, true))⟩, oo 24 (.pick (.t 17) (.t 23) (.c (bb false))), om 6 24]
def Lf18 : LFun := ⟨25, [(.tmp 6)], (.seq (.reg false Lf18_r0) (.seq (.reg false Lf18_r1) .ret))⟩
theorem low_impl_entryLets : lowFun Go.Proofs.Try.prog 18 = some Lf18 := by kernel_rfl
noncomputable def F_impl_entryLets (x_e : DEntry) (x_user : Bool) (x_write : Bool) : Option Bool :=
 cond x_e.There
  (cond x_e.Write
   (cond x_e.User
    (some true)
    (some (!x_user)))
   (cond (!x_write)
    (cond x_e.User
     (some true)
     (some (!x_user)))
    (some false)))
  (some false)
theorem impl_entryLets_fn {x_e : DEntry} {x_user : Bool} {x_write : Bool} {R_ : Bool} (hh : F_impl_entryLets x_e x_user x_write = some R_) : Fn Try.prog 18 [.agg (C_31 x_e), .bool x_user, .bool x_write] (.bool R_) := by
 unfold F_impl_entryLets at hh
 refine Fn.start low_impl_entryLets [0, 1, 2] (E := sp 25 [(0, .agg (C_31 x_e)), (1, bb x_user), (2, bb x_write)]) (by kernel_rfl) (v := bb R_) (Hr := []) (k := 0) (by kernel_rfl) ?_
 refine sy [1, 2, 3] [0] (sp 25 [(1, bb x_user), (2, bb x_write), (3, pp 0)]) [(0, some ⟨31, (C_31 x_e)⟩)] 1 ?_
 refine Aw.sreg [6] [] (yu 3 [(7, pp 0), (8, bb x_e.There), (9, bb x_e.There)] [(0, some ⟨31, (C_31 x_e)⟩)] 1 ?_)
 rcases cond_some hh with ⟨hb, hh⟩ | ⟨hb, hh⟩
 · refine yb 8 hb ?_
   refine yb 9 hb ?_
   refine yu 3 [(8, bb true), (9, bb true), (10, .ptr 0 [] 1), (11, bb x_e.Write), (12, bb x_e.Write)] [(0, some ⟨31, (C_31 x_e)⟩)] 1 ?_
   rcases cond_some hh with ⟨hb, hh⟩ | ⟨hb, hh⟩
   · refine yb 11 hb ?_
     refine yb 12 hb ?_
     refine yu 8 [(11, bb true), (12, bb true), (13, .und), (14, .und), (15, bb true), (16, bb true), (17, bb true), (18, .ptr 0 [] 2), (19, bb x_e.User), (20, bb x_e.User)] [(0, some ⟨31, (C_31 x_e)⟩)] 1 ?_
     rcases cond_some hh with ⟨hb, hh⟩ | ⟨hb, hh⟩
     · refine yb 19 hb ?_
       refine yb 20 hb ?_
       refine yt (sp 25 [(6, bb true)]) [] 1 ?_
       refine Aw.ret ?_
       rw [some_some hh]
       exact gvb
     refine yb 19 hb ?_
     refine yb 20 hb ?_
     refine yt (sp 25 [(6, bb (!x_user))]) [] 1 ?_
     refine Aw.ret ?_
     rw [some_some hh]
     exact gvb
   refine yb 11 hb ?_
   refine yb 12 hb ?_
   refine yu 5 [(11, bb false), (12, bb false), (13, bb x_write), (14, bb (!x_write)), (15, bb (!x_write)), (16, bb (!x_write)), (17, bb (!x_write))] [(0, some ⟨31, (C_31 x_e)⟩)] 1 ?_
   rcases cond_some hh with ⟨hb, hh⟩ | ⟨hb, hh⟩
   · refine yb 14 hb ?_
     refine yb 15 hb ?_
     refine yb 16 hb ?_
     refine yb 17 hb ?_
     refine yu 3 [(14, bb true), (15, bb true), (16, bb true), (17, bb true), (18, .ptr 0 [] 2), (19, bb x_e.User), (20, bb x_e.User)] [(0, some ⟨31, (C_31 x_e)⟩)] 1 ?_
     rcases cond_some hh with ⟨hb, hh⟩ | ⟨hb, hh⟩
     · refine yb 19 hb ?_
       refine yb 20 hb ?_
       refine yt (sp 25 [(6, bb true)]) [] 1 ?_
       refine Aw.ret ?_
       rw [some_some hh]
       exact gvb
     refine yb 19 hb ?_
     refine yb 20 hb ?_
     refine yt (sp 25 [(6, bb (!x_user))]) [] 1 ?_
     refine Aw.ret ?_
     rw [some_some hh]
     exact gvb
   refine yb 14 hb ?_
   refine yb 15 hb ?_
   refine yb 16 hb ?_
   refine yb 17 hb ?_
   refine yt (sp 25 [(6, bb false)]) [] 1 ?_
   refine Aw.ret ?_
   rw [some_some hh]
   exact gvb
 refine yb 8 hb ?_
 refine yb 9 hb ?_
 refine yt (sp 25 [(6, bb false)]) [] 1 ?_
 refine Aw.ret ?_
 rw [some_some hh]
 exact gvb
def Lf10_r0 : List LOper := [oo 10 (.mv (.c (ii 0)))]
def Lf10_r1 : List LOper := [om 12 0, oo 13 (.call 7 [(.t 12)]), oo 14 (.un .not (.t 13)), om 15 14, ⟨(some 16), (.mv (.t 1)), (some (15, false))⟩, ⟨(some 17), (.call 15 [(.t 16)]), (some (15, false))⟩, ⟨(some 18), (.un .not (.t 17)), (some (15, false))⟩, oo 19 (.pick (.t 15) (.c (bb true)) (.t 18)), om 20 19, ⟨(some 21), (.mv (.t 2)), (some (20, false))⟩, ⟨(some 22), (.call 16 [(.t 21)]), (some (20, false))⟩, ⟨(some 23), (.un .not (.t 22)), (some (20, false))⟩, oo 24 (.pick (.t 20) (.c (bb true)) (.t 23))]
def Lf10_r2 : List LOper := [oo 10 (.mv (.c (ii (-1))))]
def Lf10_r3 : List LOper := [om 25 1, oo 26 (.bin .eql (.t 25) (.c (ii (-1))))]
def Lf10_r4 : List LOper := [om 27 2, om 10 27]
def Lf10_r5 : List LOper := [om 28 0, om 29 1, oo 30 (.bin .mul (.t 29) (.c (ii 8))), om 31 2, oo 32 (.bin .quo (.t 31) (.c (ii 8))), oo 33 (.bin .add (.t 30) (.t 32)), oo 34 (.iadr 1 (.t 28) (.t 33)), oo 35 (.load false 1 (.t 34)), oo 36 (.call 17 [(.t 35)]), oo 11 (.fresh 31 [(bb false), (bb false), (bb false), (ii 0)]), ⟨none, (.store 4 (.t 11) (.t 36)), none⟩]
def Lf10_r6 : List LOper := [oo 37 (.load true 4 (.t 11)), om 38 3, om 39 4, oo 40 (.call 18 [(.t 37), (.t 38), (.t 39)]), oo 41 (.un .not (.t 40))]
def Lf10_r7 : List LOper := [oo 10 (.mv (.c (ii (-1))))]
def Lf10_r8 : List LOper := [oo 42 (.fadr 3 (.t 11)), oo 43 (.load false 1 (.t 42)), oo 44 (.bin .mul (.t 43) (.c (ii 8))), om 45 2, oo 46 (.bin .rem (.t 45) (.c (ii 8))), oo 47 (.bin .add (.t 44) (.t 46)), om 10 47]
def Lf10 : LFun := ⟨48, [(.tmp 10)], (.seq (.reg false Lf10_r0) (.seq (.seq (.reg false Lf10_r1) (.cond (.t 24) (.seq (.reg false Lf10_r2) .ret) .skip)) (.seq (.seq (.reg false Lf10_r3) (.cond (.t 26) (.seq (.reg false Lf10_r4) .ret) .skip)) (.seq (.reg false Lf10_r5) (.seq (.seq (.reg false Lf10_r6) (.cond (.t 41) (.seq (.reg false Lf10_r7) .ret) .skip)) (.seq (.reg false Lf10_r8) .ret))))))⟩
theorem low_impl_Walk : lowFun Go.Proofs.Try.prog 10 = some Lf10 := by kernel_rfl
noncomputable def F_impl_Walk (x_mem : List Int) (x_root : Int) (x_addr : Int) (x_user : Bool) (x_write : Bool) : Option Int :=
 Option.bind (F_impl_MemOk x_mem) fun v1 =>
 cond (!v1)
  (some (-1 : Int))
  (Option.bind (F_impl_rootOk x_root) fun v2 =>
  cond (!v2)
   (some (-1 : Int))
   (Option.bind (F_impl_addressOk x_addr) fun v3 =>
   cond (!v3)
    (some (-1 : Int))
    (cond (decide (x_root = (-1 : Int)))
     (some x_addr)
     (grd ((0 : Int) ≤ (w64 ((w64 (x_root * (8 : Int))) + (w64 (Int.tdiv x_addr (8 : Int))))) ∧ (w64 ((w64 (x_root * (8 : Int))) + (w64 (Int.tdiv x_addr (8 : Int))))) < ((List.length x_mem : Nat) : Int)) (Option.bind (F_impl_EntryFrom (List.getD x_mem (Int.toNat (w64 ((w64 (x_root * (8 : Int))) + (w64 (Int.tdiv x_addr (8 : Int)))))) default)) fun v4 =>
      Option.bind (F_impl_entryLets v4 x_user x_write) fun v5 =>
      cond (!v5)
       (some (-1 : Int))
       (some (w64 ((w64 (v4.Page * (8 : Int))) + (Int.tmod x_addr (8 : Int))))))))))
theorem impl_Walk_fn {x_mem : List Int} {x_root : Int} {x_addr : Int} {x_user : Bool} {x_write : Bool} {R_ : Int} (hh : F_impl_Walk x_mem x_root x_addr x_user x_write = some R_) : Fn Try.prog 10 [bo (eI .i64) x_mem, .int .i64 x_root, .int .i64 x_addr, .bool x_user, .bool x_write] (.int .i64 R_) := by
 unfold F_impl_Walk at hh
 refine Fn.start low_impl_Walk [0, 1, 2, 3, 4] (E := sp 48 [(0, bo (eI .i64) x_mem), (1, ii x_root), (2, ii x_addr), (3, bb x_user), (4, bb x_write)]) (by kernel_rfl) (v := ii R_) (Hr := []) (k := 0) (by kernel_rfl) ?_
 refine sy [0, 1, 2, 3, 4] [] (sp 48 [(0, bo (eI .i64) x_mem), (1, ii x_root), (2, ii x_addr), (3, bb x_user), (4, bb x_write)]) [] 0 ?_
 refine Aw.seq ?_
 refine Aw.sreg [0, 1, 2, 3, 4, 24] [] (yj 1  (sp 48 [(0, bo (eI .i64) x_mem), (1, ii x_root), (2, ii x_addr), (3, bb x_user), (4, bb x_write), (12, bo (eI .i64) x_mem)]) [] 0 ?_)
 obtain ⟨v1, hv1, hh⟩ := bind_some hh
 refine ys (.call 7 [(.t 12)]) (some 13) (oc (impl_MemOk_fn hv1) ?_)
 refine yu 2 [(13, bb v1), (14, bb (!v1)), (15, bb (!v1))] [] 0 ?_
 rcases cond_some hh with ⟨hb, hh⟩ | ⟨hb, hh⟩
 · refine yb 14 hb ?_
   refine yb 15 hb ?_
   refine yt (sp 48 [(0, bo (eI .i64) x_mem), (1, ii x_root), (2, ii x_addr), (3, bb x_user), (4, bb x_write), (24, bb true)]) [] 0 ?_
   refine cT rfl ?_
   refine sy [10] [] (sp 48 [(10, ii (-1))]) [] 0 ?_
   refine Aw.ret ?_
   refine then_r ?_
   rw [some_some hh]
   exact gvi
 refine yb 14 hb ?_
 refine yb 15 hb ?_
 refine yu 1 [(14, bb false), (15, bb false), (16, ii x_root)] [] 0 ?_
 obtain ⟨v2, hv2, hh⟩ := bind_some hh
 refine yg (.call 15 [(.t 16)]) (some 17) 15 false (oc (impl_rootOk_fn hv2) ?_)
 refine yu 3 [(17, bb v2), (18, bb (!v2)), (19, bb (!v2)), (20, bb (!v2))] [] 0 ?_
 rcases cond_some hh with ⟨hb, hh⟩ | ⟨hb, hh⟩
 · refine yb 18 hb ?_
   refine yb 19 hb ?_
   refine yb 20 hb ?_
   refine yt (sp 48 [(0, bo (eI .i64) x_mem), (1, ii x_root), (2, ii x_addr), (3, bb x_user), (4, bb x_write), (24, bb true)]) [] 0 ?_
   refine cT rfl ?_
   refine sy [10] [] (sp 48 [(10, ii (-1))]) [] 0 ?_
   refine Aw.ret ?_
   refine then_r ?_
   rw [some_some hh]
   exact gvi
 refine yb 18 hb ?_
 refine yb 19 hb ?_
 refine yb 20 hb ?_
 refine yu 1 [(18, bb false), (19, bb false), (20, bb false), (21, ii x_addr)] [] 0 ?_
 obtain ⟨v3, hv3, hh⟩ := bind_some hh
 refine yg (.call 16 [(.t 21)]) (some 22) 20 false (oc (impl_addressOk_fn hv3) ?_)
 refine yt (sp 48 [(0, bo (eI .i64) x_mem), (1, ii x_root), (2, ii x_addr), (3, bb x_user), (4, bb x_write), (24, bb (!v3))]) [] 0 ?_
 rcases cond_some hh with ⟨hb, hh⟩ | ⟨hb, hh⟩
 · refine cT hb ?_
   refine sy [10] [] (sp 48 [(10, ii (-1))]) [] 0 ?_
   refine Aw.ret ?_
   refine then_r ?_
   rw [some_some hh]
   exact gvi
 refine cF hb ?_
 refine Aw.xskip (fun _ _ _ hq => then_m hq) ?_
 refine Aw.seq ?_
 refine sy [0, 1, 2, 3, 4, 26] [] (sp 48 [(0, bo (eI .i64) x_mem), (1, ii x_root), (2, ii x_addr), (3, bb x_user), (4, bb x_write), (26, bb (decide (x_root = (-1 : Int))))]) [] 0 ?_
 rcases cond_some hh with ⟨hb, hh⟩ | ⟨hb, hh⟩
 · refine cT hb ?_
   refine sy [10] [] (sp 48 [(10, ii x_addr)]) [] 0 ?_
   refine Aw.ret ?_
   refine then_r ?_
   rw [some_some hh]
   exact gvi
 refine cF hb ?_
 refine Aw.xskip (fun _ _ _ hq => then_m hq) ?_
 refine Aw.sreg [2, 3, 4, 11] [0] ?_
 refine yjc 6 [(8 : Int) ≠ 0] (sp 48 [(0, bo (eI .i64) x_mem), (1, ii x_root), (2, ii x_addr), (3, bb x_user), (4, bb x_write), (26, bb (decide (x_root = (-1 : Int)))), (28, bo (eI .i64) x_mem), (29, ii x_root), (30, ii (w64 (x_root * (8 : Int)))), (31, ii x_addr), (32, ii (w64 (Int.tdiv x_addr (8 : Int)))), (33, ii (w64 ((w64 (x_root * (8 : Int))) + (w64 (Int.tdiv x_addr (8 : Int))))))]) [] 0 (.cons (by decide) .nil) ?_
 obtain ⟨hg2, hh⟩ := grd_some hh
 refine ys (.iadr 1 (.t 28) (.t 33)) (some 34) (op_iadr (kd := .i64) (c := (eI .i64)) (xs := x_mem) len_eI (by decide) (by kernel_rfl) (by kernel_rfl) hg2 ?_)
 refine ys (.load false 1 (.t 34)) (some 35) (op_loadb (c := (eI .i64)) (xs := x_mem) (o := Int.toNat (w64 ((w64 (x_root * (8 : Int))) + (w64 (Int.tdiv x_addr (8 : Int))))) * 1) (i := (Int.toNat (w64 ((w64 (x_root * (8 : Int))) + (w64 (Int.tdiv x_addr (8 : Int))))))) (off := 0) (v := ii (List.getD x_mem (Int.toNat (w64 ((w64 (x_root * (8 : Int))) + (w64 (Int.tdiv x_addr (8 : Int)))))) default)) len_eI (by kernel_rfl) (by omega) (by omega) (by decide) (by kernel_rfl) ?_)
 obtain ⟨v4, hv4, hh⟩ := bind_some hh
 refine ys (.call 17 [(.t 35)]) (some 36) (oc (impl_EntryFrom_fn hv4) ?_)
 refine yt (sp 48 [(2, ii x_addr), (3, bb x_user), (4, bb x_write), (11, pp 0)]) [(0, some ⟨31, (C_31 v4)⟩)] 1 ?_
 refine Aw.seq ?_
 refine Aw.sreg [2, 11, 41] [0] (yj 3  (sp 48 [(2, ii x_addr), (3, bb x_user), (4, bb x_write), (11, pp 0), (37, .agg (C_31 v4)), (38, bb x_user), (39, bb x_write)]) [(0, some ⟨31, (C_31 v4)⟩)] 1 ?_)
 obtain ⟨v5, hv5, hh⟩ := bind_some hh
 refine ys (.call 18 [(.t 37), (.t 38), (.t 39)]) (some 40) (oc (impl_entryLets_fn hv5) ?_)
 refine yt (sp 48 [(2, ii x_addr), (11, pp 0), (41, bb (!v5))]) [(0, some ⟨31, (C_31 v4)⟩)] 1 ?_
 rcases cond_some hh with ⟨hb, hh⟩ | ⟨hb, hh⟩
 · refine cT hb ?_
   refine sy [10] [] (sp 48 [(10, ii (-1))]) [] 1 ?_
   refine Aw.ret ?_
   refine then_r ?_
   rw [some_some hh]
   exact gvi
 refine cF hb ?_
 refine Aw.xskip (fun _ _ _ hq => then_m hq) ?_
 refine Aw.sreg [10] [] ?_
 refine ytc [(8 : Int) ≠ 0] (sp 48 [(10, ii (w64 ((w64 (v4.Page * (8 : Int))) + (Int.tmod x_addr (8 : Int)))))]) [] 1 (.cons (by decide) .nil) ?_
 refine Aw.ret ?_
 rw [some_some hh]
 exact gvi
def Lf9_r0 : List LOper := [oo 10 (.mv (.c (ii 0)))]
def Lf9_r1 : List LOper := [om 12 0, oo 13 (.call 5 [(.t 12)]), oo 14 (.un .not (.t 13)), om 15 14, ⟨(some 16), (.mv (.t 1)), (some (15, false))⟩, ⟨(some 17), (.call 13 [(.t 16), (.c (ii (-1))), (.c (ii 7))]), (some (15, false))⟩, ⟨(some 18), (.un .not (.t 17)), (some (15, false))⟩, oo 19 (.pick (.t 15) (.c (bb true)) (.t 18)), om 20 19, ⟨(some 21), (.mv (.t 2)), (some (20, false))⟩, ⟨(some 22), (.call 13 [(.t 21), (.c (ii 0)), (.c (ii 63))]), (some (20, false))⟩, ⟨(some 23), (.un .not (.t 22)), (some (20, false))⟩, oo 24 (.pick (.t 20) (.c (bb true)) (.t 23))]
def Lf9_r2 : List LOper := [oo 10 (.mv (.c (ii (-1))))]
def Lf9_r3 : List LOper := [om 25 1, oo 26 (.bin .eql (.t 25) (.c (ii (-1))))]
def Lf9_r4 : List LOper := [om 27 2, om 10 27]
def Lf9_r5 : List LOper := [om 28 0, om 29 1, oo 30 (.bin .mul (.t 29) (.c (ii 8))), om 31 2, oo 32 (.bin .quo (.t 31) (.c (ii 8))), oo 33 (.bin .add (.t 30) (.t 32)), oo 34 (.iadr 1 (.t 28) (.t 33)), oo 35 (.load false 1 (.t 34)), oo 36 (.call 14 [(.t 35)]), oo 11 (.fresh 31 [(bb false), (bb false), (bb false), (ii 0)]), ⟨none, (.store 4 (.t 11) (.t 36)), none⟩]
def Lf9_r6 : List LOper := [oo 37 (.fadr 0 (.t 11)), oo 38 (.load false 1 (.t 37)), oo 39 (.un .not (.t 38)), om 40 39, ⟨(some 41), (.mv (.t 4)), (some (40, false))⟩, ⟨(some 42), (.mv (.t 41)), (some (40, false))⟩, ⟨(some 43), (.fadr 1 (.t 11)), (some (42, true))⟩, ⟨(some 44), (.load false 1 (.t 43)), (some (42, true))⟩, ⟨(some 45), (.un .not (.t 44)), (some (42, true))⟩, ⟨(some 46), (.pick (.t 42) (.t 45) (.c (bb false))), (some (40, false))⟩, oo 47 (.pick (.t 40) (.c (bb true)) (.t 46)), om 48 47, ⟨(some 49), (.mv (.t 3)), (some (48, false))⟩, ⟨(some 50), (.mv (.t 49)), (some (48, false))⟩, ⟨(some 51), (.fadr 2 (.t 11)), (some (50, true))⟩, ⟨(some 52), (.load false 1 (.t 51)), (some (50, true))⟩, ⟨(some 53), (.un .not (.t 52)), (some (50, true))⟩, ⟨(some 54), (.pick (.t 50) (.t 53) (.c (bb false))), (some (48, false))⟩, oo 55 (.pick (.t 48) (.c (bb true)) (.t 54))]
def Lf9_r7 : List LOper := [oo 10 (.mv (.c (ii (-1))))]
def Lf9_r8 : List LOper := [oo 56 (.fadr 3 (.t 11)), oo 57 (.load false 1 (.t 56)), oo 58 (.bin .mul (.t 57) (.c (ii 8))), om 59 2, oo 60 (.bin .rem (.t 59) (.c (ii 8))), oo 61 (.bin .add (.t 58) (.t 60)), om 10 61]
def Lf9 : LFun := ⟨62, [(.tmp 10)], (.seq (.reg false Lf9_r0) (.seq (.seq (.reg false Lf9_r1) (.cond (.t 24) (.seq (.reg false Lf9_r2) .ret) .skip)) (.seq (.seq (.reg false Lf9_r3) (.cond (.t 26) (.seq (.reg false Lf9_r4) .ret) .skip)) (.seq (.reg false Lf9_r5) (.seq (.seq (.reg false Lf9_r6) (.cond (.t 55) (.seq (.reg false Lf9_r7) .ret) .skip)) (.seq (.reg false Lf9_r8) .ret))))))⟩
theorem low_spec_Walk : lowFun Go.Proofs.Try.prog 9 = some Lf9 := by kernel_rfl
noncomputable def F_spec_Walk_j5 (x_addr : Int) (v4 : DEntry) (s5 : Unit) : Option Int :=
 some (w64 ((w64 (v4.Page * (8 : Int))) + (Int.tmod x_addr (8 : Int))))
noncomputable def F_spec_Walk (x_mem : List Int) (x_root : Int) (x_addr : Int) (x_user : Bool) (x_write : Bool) : Option Int :=
 Option.bind (F_spec_MemOk x_mem) fun v1 =>
 cond (!v1)
  (some (-1 : Int))
  (Option.bind (F_spec_l1In x_root (-1 : Int) (7 : Int)) fun v2 =>
  cond (!v2)
   (some (-1 : Int))
   (Option.bind (F_spec_l1In x_addr (0 : Int) (63 : Int)) fun v3 =>
   cond (!v3)
    (some (-1 : Int))
    (cond (decide (x_root = (-1 : Int)))
     (some x_addr)
     (grd ((0 : Int) ≤ (w64 ((w64 (x_root * (8 : Int))) + (w64 (Int.tdiv x_addr (8 : Int))))) ∧ (w64 ((w64 (x_root * (8 : Int))) + (w64 (Int.tdiv x_addr (8 : Int))))) < ((List.length x_mem : Nat) : Int)) (Option.bind (F_spec_EntryFrom (List.getD x_mem (Int.toNat (w64 ((w64 (x_root * (8 : Int))) + (w64 (Int.tdiv x_addr (8 : Int)))))) default)) fun v4 =>
      Option.bind (cond (!v4.There)
       (some (.out (-1 : Int)))
       (cond x_write
        (cond (!v4.Write)
         (some (.out (-1 : Int)))
         (cond x_user
          (cond (!v4.User)
           (some (.out (-1 : Int)))
           (some (.go ())))
          (some (.go ()))))
        (cond x_user
         (cond (!v4.User)
          (some (.out (-1 : Int)))
          (some (.go ())))
         (some (.go ()))))) fun j5 =>
       JO.run j5 (F_spec_Walk_j5 x_addr v4))))))
theorem spec_Walk_fn {x_mem : List Int} {x_root : Int} {x_addr : Int} {x_user : Bool} {x_write : Bool} {R_ : Int} (hh : F_spec_Walk x_mem x_root x_addr x_user x_write = some R_) : Fn Try.prog 9 [bo (eI .i64) x_mem, .int .i64 x_root, .int .i64 x_addr, .bool x_user, .bool x_write] (.int .i64 R_) := by
 unfold F_spec_Walk at hh
 refine Fn.start low_spec_Walk [0, 1, 2, 3, 4] (E := sp 62 [(0, bo (eI .i64) x_mem), (1, ii x_root), (2, ii x_addr), (3, bb x_user), (4, bb x_write)]) (by kernel_rfl) (v := ii R_) (Hr := []) (k := 0) (by kernel_rfl) ?_
 refine sy [0, 1, 2, 3, 4] [] (sp 62 [(0, bo (eI .i64) x_mem), (1, ii x_root), (2, ii x_addr), (3, bb x_user), (4, bb x_write)]) [] 0 ?_
 refine Aw.seq ?_
 refine Aw.sreg [0, 1, 2, 3, 4, 24] [] (yj 1  (sp 62 [(0, bo (eI .i64) x_mem), (1, ii x_root), (2, ii x_addr), (3, bb x_user), (4, bb x_write), (12, bo (eI .i64) x_mem)]) [] 0 ?_)
 obtain ⟨v1, hv1, hh⟩ := bind_some hh
 refine ys (.call 5 [(.t 12)]) (some 13) (oc (spec_MemOk_fn hv1) ?_)
 refine yu 2 [(13, bb v1), (14, bb (!v1)), (15, bb (!v1))] [] 0 ?_
 rcases cond_some hh with ⟨hb, hh⟩ | ⟨hb, hh⟩
 · refine yb 14 hb ?_
   refine yb 15 hb ?_
   refine yt (sp 62 [(0, bo (eI .i64) x_mem), (1, ii x_root), (2, ii x_addr), (3, bb x_user), (4, bb x_write), (24, bb true)]) [] 0 ?_
   refine cT rfl ?_
   refine sy [10] [] (sp 62 [(10, ii (-1))]) [] 0 ?_
   refine Aw.ret ?_
   refine then_r ?_
   rw [some_some hh]
   exact gvi
 refine yb 14 hb ?_
 refine yb 15 hb ?_
 refine yu 1 [(14, bb false), (15, bb false), (16, ii x_root)] [] 0 ?_
 obtain ⟨v2, hv2, hh⟩ := bind_some hh
 refine yg (.call 13 [(.t 16), (.c (ii (-1))), (.c (ii 7))]) (some 17) 15 false (oc (spec_l1In_fn hv2) ?_)
 refine yu 3 [(17, bb v2), (18, bb (!v2)), (19, bb (!v2)), (20, bb (!v2))] [] 0 ?_
 rcases cond_some hh with ⟨hb, hh⟩ | ⟨hb, hh⟩
 · refine yb 18 hb ?_
   refine yb 19 hb ?_
   refine yb 20 hb ?_
   refine yt (sp 62 [(0, bo (eI .i64) x_mem), (1, ii x_root), (2, ii x_addr), (3, bb x_user), (4, bb x_write), (24, bb true)]) [] 0 ?_
   refine cT rfl ?_
   refine sy [10] [] (sp 62 [(10, ii (-1))]) [] 0 ?_
   refine Aw.ret ?_
   refine then_r ?_
   rw [some_some hh]
   exact gvi
 refine yb 18 hb ?_
 refine yb 19 hb ?_
 refine yb 20 hb ?_
 refine yu 1 [(18, bb false), (19, bb false), (20, bb false), (21, ii x_addr)] [] 0 ?_
 obtain ⟨v3, hv3, hh⟩ := bind_some hh
 refine yg (.call 13 [(.t 21), (.c (ii 0)), (.c (ii 63))]) (some 22) 20 false (oc (spec_l1In_fn hv3) ?_)
 refine yt (sp 62 [(0, bo (eI .i64) x_mem), (1, ii x_root), (2, ii x_addr), (3, bb x_user), (4, bb x_write), (24, bb (!v3))]) [] 0 ?_
 rcases cond_some hh with ⟨hb, hh⟩ | ⟨hb, hh⟩
 · refine cT hb ?_
   refine sy [10] [] (sp 62 [(10, ii (-1))]) [] 0 ?_
   refine Aw.ret ?_
   refine then_r ?_
   rw [some_some hh]
   exact gvi
 refine cF hb ?_
 refine Aw.xskip (fun _ _ _ hq => then_m hq) ?_
 refine Aw.seq ?_
 refine sy [0, 1, 2, 3, 4, 26] [] (sp 62 [(0, bo (eI .i64) x_mem), (1, ii x_root), (2, ii x_addr), (3, bb x_user), (4, bb x_write), (26, bb (decide (x_root = (-1 : Int))))]) [] 0 ?_
 rcases cond_some hh with ⟨hb, hh⟩ | ⟨hb, hh⟩
 · refine cT hb ?_
   refine sy [10] [] (sp 62 [(10, ii x_addr)]) [] 0 ?_
   refine Aw.ret ?_
   refine then_r ?_
   rw [some_some hh]
   exact gvi
 refine cF hb ?_
 refine Aw.xskip (fun _ _ _ hq => then_m hq) ?_
 refine Aw.sreg [2, 3, 4, 11] [0] ?_
 refine yjc 6 [(8 : Int) ≠ 0] (sp 62 [(0, bo (eI .i64) x_mem), (1, ii x_root), (2, ii x_addr), (3, bb x_user), (4, bb x_write), (26, bb (decide (x_root = (-1 : Int)))), (28, bo (eI .i64) x_mem), (29, ii x_root), (30, ii (w64 (x_root * (8 : Int)))), (31, ii x_addr), (32, ii (w64 (Int.tdiv x_addr (8 : Int)))), (33, ii (w64 ((w64 (x_root * (8 : Int))) + (w64 (Int.tdiv x_addr (8 : Int))))))]) [] 0 (.cons (by decide) .nil) ?_
 obtain ⟨hg2, hh⟩ := grd_some hh
 refine ys (.iadr 1 (.t 28) (.t 33)) (some 34) (op_iadr (kd := .i64) (c := (eI .i64)) (xs := x_mem) len_eI (by decide) (by kernel_rfl) (by kernel_rfl) hg2 ?_)
 refine ys (.load false 1 (.t 34)) (some 35) (op_loadb (c := (eI .i64)) (xs := x_mem) (o := Int.toNat (w64 ((w64 (x_root * (8 : Int))) + (w64 (Int.tdiv x_addr (8 : Int))))) * 1) (i := (Int.toNat (w64 ((w64 (x_root * (8 : Int))) + (w64 (Int.tdiv x_addr (8 : Int))))))) (off := 0) (v := ii (List.getD x_mem (Int.toNat (w64 ((w64 (x_root * (8 : Int))) + (w64 (Int.tdiv x_addr (8 : Int)))))) default)) len_eI (by kernel_rfl) (by omega) (by omega) (by decide) (by kernel_rfl) ?_)
 obtain ⟨v4, hv4, hh⟩ := bind_some hh
 refine ys (.call 14 [(.t 35)]) (some 36) (oc (spec_EntryFrom_fn hv4) ?_)
 refine yt (sp 62 [(2, ii x_addr), (3, bb x_user), (4, bb x_write), (11, pp 0)]) [(0, some ⟨31, (C_31 v4)⟩)] 1 ?_
 obtain ⟨j5, hh, hk5⟩ := bind_some hh
 refine Aw.join (S := Unit) (fun s5 => sp 62 [(2, ii x_addr), (11, pp 0)]) (fun s5 => [(0, some ⟨31, (C_31 v4)⟩)]) 1 (fun s5 => F_spec_Walk_j5 x_addr v4 s5 = some R_) ?_ ?_
 · intro s5 hh
   unfold F_spec_Walk_j5 at hh
   refine Aw.sreg [10] [] ?_
   refine ytc [(8 : Int) ≠ 0] (sp 62 [(10, ii (w64 ((w64 (v4.Page * (8 : Int))) + (Int.tmod x_addr (8 : Int)))))]) [] 1 (.cons (by decide) .nil) ?_
   refine Aw.ret ?_
   rw [some_some hh]
   exact gvi
 intro Q5 hN5 hR5 hE5
 refine Aw.sreg [2, 11, 55] [0] (yj 4  (sp 62 [(2, ii x_addr), (3, bb x_user), (4, bb x_write), (11, pp 0), (37, pp 0), (38, bb v4.There), (39, bb (!v4.There)), (40, bb (!v4.There))]) [(0, some ⟨31, (C_31 v4)⟩)] 1 ?_)
 rcases cond_some hh with ⟨hb, hh⟩ | ⟨hb, hh⟩
 · refine yb 39 hb ?_
   refine yb 40 hb ?_
   refine yt (sp 62 [(2, ii x_addr), (11, pp 0), (55, bb true)]) [(0, some ⟨31, (C_31 v4)⟩)] 1 ?_
   refine cT rfl ?_
   refine sy [10] [] (sp 62 [(10, ii (-1))]) [] 1 ?_
   refine Aw.ret ?_
   obtain rfl := some_some hh
   refine hR5 _ _ _ ?_
   refine ?_
   rw [some_some hk5]
   exact gvi
 refine yb 39 hb ?_
 refine yb 40 hb ?_
 refine yu 2 [(39, bb false), (40, bb false), (41, bb x_write), (42, bb x_write)] [(0, some ⟨31, (C_31 v4)⟩)] 1 ?_
 rcases cond_some hh with ⟨hb, hh⟩ | ⟨hb, hh⟩
 · refine yb 4 hb ?_
   refine yb 41 hb ?_
   refine yb 42 hb ?_
   refine yu 6 [(4, bb true), (41, bb true), (42, bb true), (43, .ptr 0 [] 1), (44, bb v4.Write), (45, bb (!v4.Write)), (46, bb (!v4.Write)), (47, bb (!v4.Write)), (48, bb (!v4.Write))] [(0, some ⟨31, (C_31 v4)⟩)] 1 ?_
   rcases cond_some hh with ⟨hb, hh⟩ | ⟨hb, hh⟩
   · refine yb 45 hb ?_
     refine yb 46 hb ?_
     refine yb 47 hb ?_
     refine yb 48 hb ?_
     refine yt (sp 62 [(2, ii x_addr), (11, pp 0), (55, bb true)]) [(0, some ⟨31, (C_31 v4)⟩)] 1 ?_
     refine cT rfl ?_
     refine sy [10] [] (sp 62 [(10, ii (-1))]) [] 1 ?_
     refine Aw.ret ?_
     obtain rfl := some_some hh
     refine hR5 _ _ _ ?_
     refine ?_
     rw [some_some hk5]
     exact gvi
   refine yb 45 hb ?_
   refine yb 46 hb ?_
   refine yb 47 hb ?_
   refine yb 48 hb ?_
   refine yu 2 [(45, bb false), (46, bb false), (47, bb false), (48, bb false), (49, bb x_user), (50, bb x_user)] [(0, some ⟨31, (C_31 v4)⟩)] 1 ?_
   rcases cond_some hh with ⟨hb, hh⟩ | ⟨hb, hh⟩
   · refine yb 3 hb ?_
     refine yb 49 hb ?_
     refine yb 50 hb ?_
     refine yt (sp 62 [(2, ii x_addr), (11, pp 0), (55, bb (!v4.User))]) [(0, some ⟨31, (C_31 v4)⟩)] 1 ?_
     rcases cond_some hh with ⟨hb, hh⟩ | ⟨hb, hh⟩
     · refine cT hb ?_
       refine sy [10] [] (sp 62 [(10, ii (-1))]) [] 1 ?_
       refine Aw.ret ?_
       obtain rfl := some_some hh
       refine hR5 _ _ _ ?_
       refine ?_
       rw [some_some hk5]
       exact gvi
     refine cF hb ?_
     refine Aw.skip ?_
     obtain rfl := some_some hh
     exact hN5 () _ _ _ hk5 (Ent.list2 [some 0] rfl rfl (by decide) (rens_sp (by kernel_rfl) (rl_c (u := ii x_addr) (by kernel_rfl) ren_i (rl_c (u := pp 0) (by kernel_rfl) (ren_p (by decide) rfl) rl_n))) (hq ⟨31, (C_31 v4)⟩ (rens_same (nr_C_31 _)) hs_nil))
   refine yb 3 hb ?_
   refine yb 49 hb ?_
   refine yb 50 hb ?_
   refine yt (sp 62 [(2, ii x_addr), (11, pp 0), (55, bb false)]) [(0, some ⟨31, (C_31 v4)⟩)] 1 ?_
   refine cF rfl ?_
   refine Aw.skip ?_
   obtain rfl := some_some hh
   exact hN5 () _ _ _ hk5 (Ent.list2 [some 0] rfl rfl (by decide) (rens_sp (by kernel_rfl) (rl_c (u := ii x_addr) (by kernel_rfl) ren_i (rl_c (u := pp 0) (by kernel_rfl) (ren_p (by decide) rfl) rl_n))) (hq ⟨31, (C_31 v4)⟩ (rens_same (nr_C_31 _)) hs_nil))
 refine yb 4 hb ?_
 refine yb 41 hb ?_
 refine yb 42 hb ?_
 refine yu 8 [(4, bb false), (41, bb false), (42, bb false), (43, .und), (44, .und), (45, .und), (46, bb false), (47, bb false), (48, bb false), (49, bb x_user), (50, bb x_user)] [(0, some ⟨31, (C_31 v4)⟩)] 1 ?_
 rcases cond_some hh with ⟨hb, hh⟩ | ⟨hb, hh⟩
 · refine yb 3 hb ?_
   refine yb 49 hb ?_
   refine yb 50 hb ?_
   refine yt (sp 62 [(2, ii x_addr), (11, pp 0), (55, bb (!v4.User))]) [(0, some ⟨31, (C_31 v4)⟩)] 1 ?_
   rcases cond_some hh with ⟨hb, hh⟩ | ⟨hb, hh⟩
   · refine cT hb ?_
     refine sy [10] [] (sp 62 [(10, ii (-1))]) [] 1 ?_
     refine Aw.ret ?_
     obtain rfl := some_some hh
     refine hR5 _ _ _ ?_
     refine ?_
     rw [some_some hk5]
     exact gvi
   refine cF hb ?_
   refine Aw.skip ?_
   obtain rfl := some_some hh
   exact hN5 () _ _ _ hk5 (Ent.list2 [some 0] rfl rfl (by decide) (rens_sp (by kernel_rfl) (rl_c (u := ii x_addr) (by kernel_rfl) ren_i (rl_c (u := pp 0) (by kernel_rfl) (ren_p (by decide) rfl) rl_n))) (hq ⟨31, (C_31 v4)⟩ (rens_same (nr_C_31 _)) hs_nil))
 refine yb 3 hb ?_
 refine yb 49 hb ?_
 refine yb 50 hb ?_
 refine yt (sp 62 [(2, ii x_addr), (11, pp 0), (55, bb false)]) [(0, some ⟨31, (C_31 v4)⟩)] 1 ?_
 refine cF rfl ?_
 refine Aw.skip ?_
 obtain rfl := some_some hh
 exact hN5 () _ _ _ hk5 (Ent.list2 [some 0] rfl rfl (by decide) (rens_sp (by kernel_rfl) (rl_c (u := ii x_addr) (by kernel_rfl) ren_i (rl_c (u := pp 0) (by kernel_rfl) (ren_p (by decide) rfl) rl_n))) (hq ⟨31, (C_31 v4)⟩ (rens_same (nr_C_31 _)) hs_nil))
end Go.Proofs.Ytmjphjphgjmojaa
