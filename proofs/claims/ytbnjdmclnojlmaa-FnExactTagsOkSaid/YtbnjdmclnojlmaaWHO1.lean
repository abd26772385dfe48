/- Plain functions of the program, and that it hands back what they say. Made by program. -/
import Derived.Test.YtbnjdmclnojlmaaWT
import Derived.Test.YtbnjdmclnojlmaaProg
import Derived.Test.YtbnjdmclnojlmaaWO1
namespace Go.Proofs.Ytbnjdmclnojlmaa
open Go.RowKit
set_option maxRecDepth 100000
set_option linter.all false
set_option maxHeartbeats 0
theorem low_impl_isNoCore : LW 111 ⟨67, [(.tmp 2)], (.seq (.reg false (rg 111 0)) (.seq (.reg false (rg 111 1)) (.seq (.reg false (rg 111 2)) (.seq (.reg false (rg 111 3)) .ret))))⟩ := kr
noncomputable def F_impl_isNoCore (x_c : DCore) : Option Bool :=
 cond (decide (x_c.Pc = (0 : Int)))
  (cond (decide (x_c.Root = (0 : Int)))
   (cond (decide (x_c.Vector = (0 : Int)))
    (cond (decide (x_c.Saved = (0 : Int)))
     (cond x_c.SavedUser
      (cond (decide ((((List.length x_c.Regs) : Nat) : Int) = (0 : Int)))
       (cond (decide (x_c.Bad = (0 : Int)))
        (cond (decide (x_c.Cause = (0 : Int)))
         (cond (decide (x_c.Timer = (0 : Int)))
          (some false)
          (some false))
         (some false))
        (some false))
       (some false))
      (cond x_c.Waits
       (cond (decide ((((List.length x_c.Regs) : Nat) : Int) = (0 : Int)))
        (cond (decide (x_c.Bad = (0 : Int)))
         (cond (decide (x_c.Cause = (0 : Int)))
          (cond (decide (x_c.Timer = (0 : Int)))
           (some false)
           (some false))
          (some false))
         (some false))
        (some false))
       (cond x_c.User
        (cond (decide ((((List.length x_c.Regs) : Nat) : Int) = (0 : Int)))
         (cond (decide (x_c.Bad = (0 : Int)))
          (cond (decide (x_c.Cause = (0 : Int)))
           (cond (decide (x_c.Timer = (0 : Int)))
            (some false)
            (some false))
           (some false))
          (some false))
         (some false))
        (cond x_c.On
         (cond (decide ((((List.length x_c.Regs) : Nat) : Int) = (0 : Int)))
          (cond (decide (x_c.Bad = (0 : Int)))
           (cond (decide (x_c.Cause = (0 : Int)))
            (cond (decide (x_c.Timer = (0 : Int)))
             (some false)
             (some false))
            (some false))
           (some false))
          (some false))
         (cond (decide ((((List.length x_c.Regs) : Nat) : Int) = (0 : Int)))
          (cond (decide (x_c.Bad = (0 : Int)))
           (cond (decide (x_c.Cause = (0 : Int)))
            (cond (decide (x_c.Timer = (0 : Int)))
             (some (!x_c.Stopped))
             (some false))
            (some false))
           (some false))
          (some false))))))
     (cond x_c.SavedUser
      (cond (decide ((((List.length x_c.Regs) : Nat) : Int) = (0 : Int)))
       (some false)
       (some false))
      (cond x_c.Waits
       (cond (decide ((((List.length x_c.Regs) : Nat) : Int) = (0 : Int)))
        (some false)
        (some false))
       (cond x_c.User
        (cond (decide ((((List.length x_c.Regs) : Nat) : Int) = (0 : Int)))
         (some false)
         (some false))
        (cond x_c.On
         (cond (decide ((((List.length x_c.Regs) : Nat) : Int) = (0 : Int)))
          (some false)
          (some false))
         (cond (decide ((((List.length x_c.Regs) : Nat) : Int) = (0 : Int)))
          (some false)
          (some false)))))))
    (cond x_c.SavedUser
     (cond (decide ((((List.length x_c.Regs) : Nat) : Int) = (0 : Int)))
      (some false)
      (some false))
     (cond x_c.Waits
      (cond (decide ((((List.length x_c.Regs) : Nat) : Int) = (0 : Int)))
       (some false)
       (some false))
      (cond x_c.User
       (cond (decide ((((List.length x_c.Regs) : Nat) : Int) = (0 : Int)))
        (some false)
        (some false))
       (cond x_c.On
        (cond (decide ((((List.length x_c.Regs) : Nat) : Int) = (0 : Int)))
         (some false)
         (some false))
        (cond (decide ((((List.length x_c.Regs) : Nat) : Int) = (0 : Int)))
         (some false)
         (some false)))))))
   (cond x_c.SavedUser
    (cond (decide ((((List.length x_c.Regs) : Nat) : Int) = (0 : Int)))
     (some false)
     (some false))
    (cond x_c.Waits
     (cond (decide ((((List.length x_c.Regs) : Nat) : Int) = (0 : Int)))
      (some false)
      (some false))
     (cond x_c.User
      (cond (decide ((((List.length x_c.Regs) : Nat) : Int) = (0 : Int)))
       (some false)
       (some false))
      (cond x_c.On
       (cond (decide ((((List.length x_c.Regs) : Nat) : Int) = (0 : Int)))
        (some false)
        (some false))
       (cond (decide ((((List.length x_c.Regs) : Nat) : Int) = (0 : Int)))
        (some false)
        (some false)))))))
  (cond x_c.SavedUser
   (cond (decide ((((List.length x_c.Regs) : Nat) : Int) = (0 : Int)))
    (some false)
    (some false))
   (cond x_c.Waits
    (cond (decide ((((List.length x_c.Regs) : Nat) : Int) = (0 : Int)))
     (some false)
     (some false))
    (cond x_c.User
     (cond (decide ((((List.length x_c.Regs) : Nat) : Int) = (0 : Int)))
      (some false)
      (some false))
     (cond x_c.On
      (cond (decide ((((List.length x_c.Regs) : Nat) : Int) = (0 : Int)))
       (some false)
       (some false))
      (cond (decide ((((List.length x_c.Regs) : Nat) : Int) = (0 : Int)))
       (some false)
       (some false))))))
theorem impl_isNoCore_fn {x_c : DCore} {R_ : Bool} (hh : F_impl_isNoCore x_c = some R_) : Fn Try.prog 111 [.agg (B_100 x_c)] (.bool R_) := by
 let z1 : EH := (0, some (rB100 x_c)); let z2 := (1, pp 0); let z3 := (2, bb false); let z4 : EV := (28, .ptr 0 [] 5); let z5 := (29, bb false); let z6 := (29, bb x_c.SavedUser); let z7 := (3, bb (decide (x_c.Bad = (0 : Int)))); let z8 := (3, bb false); let z9 := (3, bb true); let z10 := (30, bb false); let z11 := (30, bb x_c.SavedUser); let z12 : EV := (31, .ptr 0 [] 9); let z13 := (32, bb false); let z14 := (32, bb x_c.Waits); let z15 := (33, bb false); let z16 := (33, bb x_c.Waits); let z17 := (34, bb false); let z18 := (34, bb x_c.Waits); let z19 : EV := (35, .ptr 0 [] 10); let z20 := (36, bb false); let z21 := (36, bb x_c.User); let z22 := (37, bb false); let z23 := (37, bb x_c.User); let z24 := (38, bb false); let z25 := (38, bb x_c.User); let z26 : EV := (39, .ptr 0 [] 11); let z27 := (4, bb true); let z28 := (4, bb x_c.Stopped); let z29 := (40, bb x_c.On); let z30 := (41, bb x_c.On); let z31 := (42, bb x_c.On); let z32 := (46, pp 0); let z33 := (47, bo (eI .i64) x_c.Regs); let z34 := (48, ii (((List.length x_c.Regs) : Nat) : Int)); let z35 := (49, bb (decide ((((List.length x_c.Regs) : Nat) : Int) = (0 : Int)))); let z36 := (49, bb true); let z37 := (50, bb (decide ((((List.length x_c.Regs) : Nat) : Int) = (0 : Int)))); let z38 := (50, bb true); let z39 := (51, bb (decide (x_c.Bad = (0 : Int)))); let z40 := (51, bb true); let z41 := (52, bb (decide (x_c.Bad = (0 : Int)))); let z42 := (52, bb true); let z43 := (53, bb (decide (x_c.Bad = (0 : Int)))); let z44 := (53, bb true); let z45 : EV := (54, .ptr 0 [] 6); let z46 := (55, ii x_c.Cause); let z47 := (56, bb (decide (x_c.Cause = (0 : Int)))); let z48 := (56, bb true); let z49 := (57, bb (decide (x_c.Cause = (0 : Int)))); let z50 := (57, bb true); let z51 := (58, bb (decide (x_c.Cause = (0 : Int)))); let z52 := (58, bb true); let z53 : EV := (59, .ptr 0 [] 8); let z54 := (60, ii x_c.Timer); let z55 := (61, bb (decide (x_c.Timer = (0 : Int)))); let z56 := (62, bb (decide (x_c.Timer = (0 : Int)))); let z57 := (63, bb (decide (x_c.Timer = (0 : Int))))
 unfold F_impl_isNoCore at hh
 refine Fn.start low_impl_isNoCore [0] (E := sp 67 [(0, .agg (B_100 x_c))]) kr (v := bb R_) (Hr := []) (k := 0) kr (sy [1] [0] (sp 67 [z2]) [z1] 1 (Aw.sreg [1, 3] [0] (yu 4 [(5, .ptr 0 [] 1), (6, ii x_c.Pc), (7, bb (decide (x_c.Pc = (0 : Int)))), (8, bb (decide (x_c.Pc = (0 : Int))))] [z1] 1 ?_)))
 rcases cond_sf hh with ⟨hb, hh⟩ | ⟨hb, hh⟩
 · refine yb 7 hb (yb 8 hb (yt (sp 67 [z2, z8]) [z1] 1 (Aw.sreg [1, 3, 4] [0] (yu 3 [z4, z6, z11] [z1] 1 ?_))))
   rcases cond_some hh with ⟨hb, hh⟩ | ⟨hb, hh⟩
   · refine yb 29 hb (yb 30 hb (yt (sp 67 [z2, z8, z27]) [z1] 1 (Aw.sreg [2] [] (yu 5 [z32, z33, z34, z35, z37] [z1] 1 ?_))))
     rcases cond_sf hh with ⟨hb, hh⟩ | ⟨hb, hh⟩
     · exact yb 49 hb (yb 50 hb (yt (sp 67 [z3]) [] 1 (Aw.ret (gvbs hh))))
     exact yb 49 hb (yb 50 hb (yt (sp 67 [z3]) [] 1 (Aw.ret (gvbs hh))))
   refine yb 29 hb (yb 30 hb (yu 4 [z5, z10, z12, z14, z16, z18] [z1] 1 ?_))
   rcases cond_some hh with ⟨hb, hh⟩ | ⟨hb, hh⟩
   · refine yb 32 hb (yb 33 hb (yb 34 hb (yt (sp 67 [z2, z8, z27]) [z1] 1 (Aw.sreg [2] [] (yu 5 [z32, z33, z34, z35, z37] [z1] 1 ?_)))))
     rcases cond_sf hh with ⟨hb, hh⟩ | ⟨hb, hh⟩
     · exact yb 49 hb (yb 50 hb (yt (sp 67 [z3]) [] 1 (Aw.ret (gvbs hh))))
     exact yb 49 hb (yb 50 hb (yt (sp 67 [z3]) [] 1 (Aw.ret (gvbs hh))))
   refine yb 32 hb (yb 33 hb (yb 34 hb (yu 4 [z13, z15, z17, z19, z21, z23, z25] [z1] 1 ?_)))
   rcases cond_some hh with ⟨hb, hh⟩ | ⟨hb, hh⟩
   · refine yb 36 hb (yb 37 hb (yb 38 hb (yt (sp 67 [z2, z8, z27]) [z1] 1 (Aw.sreg [2] [] (yu 5 [z32, z33, z34, z35, z37] [z1] 1 ?_)))))
     rcases cond_sf hh with ⟨hb, hh⟩ | ⟨hb, hh⟩
     · exact yb 49 hb (yb 50 hb (yt (sp 67 [z3]) [] 1 (Aw.ret (gvbs hh))))
     exact yb 49 hb (yb 50 hb (yt (sp 67 [z3]) [] 1 (Aw.ret (gvbs hh))))
   refine yb 36 hb (yb 37 hb (yb 38 hb (yu 4 [z20, z22, z24, z26, z29, z30, z31] [z1] 1 ?_)))
   rcases cond_sf hh with ⟨hb, hh⟩ | ⟨hb, hh⟩
   · refine yb 40 hb (yb 41 hb (yb 42 hb (yt (sp 67 [z2, z8, z28]) [z1] 1 (Aw.sreg [2] [] (yu 5 [z32, z33, z34, z35, z37] [z1] 1 ?_)))))
     rcases cond_sf hh with ⟨hb, hh⟩ | ⟨hb, hh⟩
     · exact yb 49 hb (yb 50 hb (yt (sp 67 [z3]) [] 1 (Aw.ret (gvbs hh))))
     exact yb 49 hb (yb 50 hb (yt (sp 67 [z3]) [] 1 (Aw.ret (gvbs hh))))
   refine yb 40 hb (yb 41 hb (yb 42 hb (yt (sp 67 [z2, z8, z27]) [z1] 1 (Aw.sreg [2] [] (yu 5 [z32, z33, z34, z35, z37] [z1] 1 ?_)))))
   rcases cond_sf hh with ⟨hb, hh⟩ | ⟨hb, hh⟩
   · exact yb 49 hb (yb 50 hb (yt (sp 67 [z3]) [] 1 (Aw.ret (gvbs hh))))
   exact yb 49 hb (yb 50 hb (yt (sp 67 [z3]) [] 1 (Aw.ret (gvbs hh))))
 refine yb 7 hb (yb 8 hb (yu 5 [(7, bb true), (8, bb true), (9, .ptr 0 [] 2), (10, ii x_c.Root), (11, bb (decide (x_c.Root = (0 : Int)))), (12, bb (decide (x_c.Root = (0 : Int)))), (13, bb (decide (x_c.Root = (0 : Int))))] [z1] 1 ?_))
 rcases cond_sf hh with ⟨hb, hh⟩ | ⟨hb, hh⟩
 · refine yb 11 hb (yb 12 hb (yb 13 hb (yt (sp 67 [z2, z8]) [z1] 1 (Aw.sreg [1, 3, 4] [0] (yu 3 [z4, z6, z11] [z1] 1 ?_)))))
   rcases cond_some hh with ⟨hb, hh⟩ | ⟨hb, hh⟩
   · refine yb 29 hb (yb 30 hb (yt (sp 67 [z2, z8, z27]) [z1] 1 (Aw.sreg [2] [] (yu 5 [z32, z33, z34, z35, z37] [z1] 1 ?_))))
     rcases cond_sf hh with ⟨hb, hh⟩ | ⟨hb, hh⟩
     · exact yb 49 hb (yb 50 hb (yt (sp 67 [z3]) [] 1 (Aw.ret (gvbs hh))))
     exact yb 49 hb (yb 50 hb (yt (sp 67 [z3]) [] 1 (Aw.ret (gvbs hh))))
   refine yb 29 hb (yb 30 hb (yu 4 [z5, z10, z12, z14, z16, z18] [z1] 1 ?_))
   rcases cond_some hh with ⟨hb, hh⟩ | ⟨hb, hh⟩
   · refine yb 32 hb (yb 33 hb (yb 34 hb (yt (sp 67 [z2, z8, z27]) [z1] 1 (Aw.sreg [2] [] (yu 5 [z32, z33, z34, z35, z37] [z1] 1 ?_)))))
     rcases cond_sf hh with ⟨hb, hh⟩ | ⟨hb, hh⟩
     · exact yb 49 hb (yb 50 hb (yt (sp 67 [z3]) [] 1 (Aw.ret (gvbs hh))))
     exact yb 49 hb (yb 50 hb (yt (sp 67 [z3]) [] 1 (Aw.ret (gvbs hh))))
   refine yb 32 hb (yb 33 hb (yb 34 hb (yu 4 [z13, z15, z17, z19, z21, z23, z25] [z1] 1 ?_)))
   rcases cond_some hh with ⟨hb, hh⟩ | ⟨hb, hh⟩
   · refine yb 36 hb (yb 37 hb (yb 38 hb (yt (sp 67 [z2, z8, z27]) [z1] 1 (Aw.sreg [2] [] (yu 5 [z32, z33, z34, z35, z37] [z1] 1 ?_)))))
     rcases cond_sf hh with ⟨hb, hh⟩ | ⟨hb, hh⟩
     · exact yb 49 hb (yb 50 hb (yt (sp 67 [z3]) [] 1 (Aw.ret (gvbs hh))))
     exact yb 49 hb (yb 50 hb (yt (sp 67 [z3]) [] 1 (Aw.ret (gvbs hh))))
   refine yb 36 hb (yb 37 hb (yb 38 hb (yu 4 [z20, z22, z24, z26, z29, z30, z31] [z1] 1 ?_)))
   rcases cond_sf hh with ⟨hb, hh⟩ | ⟨hb, hh⟩
   · refine yb 40 hb (yb 41 hb (yb 42 hb (yt (sp 67 [z2, z8, z28]) [z1] 1 (Aw.sreg [2] [] (yu 5 [z32, z33, z34, z35, z37] [z1] 1 ?_)))))
     rcases cond_sf hh with ⟨hb, hh⟩ | ⟨hb, hh⟩
     · exact yb 49 hb (yb 50 hb (yt (sp 67 [z3]) [] 1 (Aw.ret (gvbs hh))))
     exact yb 49 hb (yb 50 hb (yt (sp 67 [z3]) [] 1 (Aw.ret (gvbs hh))))
   refine yb 40 hb (yb 41 hb (yb 42 hb (yt (sp 67 [z2, z8, z27]) [z1] 1 (Aw.sreg [2] [] (yu 5 [z32, z33, z34, z35, z37] [z1] 1 ?_)))))
   rcases cond_sf hh with ⟨hb, hh⟩ | ⟨hb, hh⟩
   · exact yb 49 hb (yb 50 hb (yt (sp 67 [z3]) [] 1 (Aw.ret (gvbs hh))))
   exact yb 49 hb (yb 50 hb (yt (sp 67 [z3]) [] 1 (Aw.ret (gvbs hh))))
 refine yb 11 hb (yb 12 hb (yb 13 hb (yu 5 [(11, bb true), (12, bb true), (13, bb true), (14, .ptr 0 [] 3), (15, ii x_c.Vector), (16, bb (decide (x_c.Vector = (0 : Int)))), (17, bb (decide (x_c.Vector = (0 : Int)))), (18, bb (decide (x_c.Vector = (0 : Int))))] [z1] 1 ?_)))
 rcases cond_sf hh with ⟨hb, hh⟩ | ⟨hb, hh⟩
 · refine yb 16 hb (yb 17 hb (yb 18 hb (yt (sp 67 [z2, z8]) [z1] 1 (Aw.sreg [1, 3, 4] [0] (yu 3 [z4, z6, z11] [z1] 1 ?_)))))
   rcases cond_some hh with ⟨hb, hh⟩ | ⟨hb, hh⟩
   · refine yb 29 hb (yb 30 hb (yt (sp 67 [z2, z8, z27]) [z1] 1 (Aw.sreg [2] [] (yu 5 [z32, z33, z34, z35, z37] [z1] 1 ?_))))
     rcases cond_sf hh with ⟨hb, hh⟩ | ⟨hb, hh⟩
     · exact yb 49 hb (yb 50 hb (yt (sp 67 [z3]) [] 1 (Aw.ret (gvbs hh))))
     exact yb 49 hb (yb 50 hb (yt (sp 67 [z3]) [] 1 (Aw.ret (gvbs hh))))
   refine yb 29 hb (yb 30 hb (yu 4 [z5, z10, z12, z14, z16, z18] [z1] 1 ?_))
   rcases cond_some hh with ⟨hb, hh⟩ | ⟨hb, hh⟩
   · refine yb 32 hb (yb 33 hb (yb 34 hb (yt (sp 67 [z2, z8, z27]) [z1] 1 (Aw.sreg [2] [] (yu 5 [z32, z33, z34, z35, z37] [z1] 1 ?_)))))
     rcases cond_sf hh with ⟨hb, hh⟩ | ⟨hb, hh⟩
     · exact yb 49 hb (yb 50 hb (yt (sp 67 [z3]) [] 1 (Aw.ret (gvbs hh))))
     exact yb 49 hb (yb 50 hb (yt (sp 67 [z3]) [] 1 (Aw.ret (gvbs hh))))
   refine yb 32 hb (yb 33 hb (yb 34 hb (yu 4 [z13, z15, z17, z19, z21, z23, z25] [z1] 1 ?_)))
   rcases cond_some hh with ⟨hb, hh⟩ | ⟨hb, hh⟩
   · refine yb 36 hb (yb 37 hb (yb 38 hb (yt (sp 67 [z2, z8, z27]) [z1] 1 (Aw.sreg [2] [] (yu 5 [z32, z33, z34, z35, z37] [z1] 1 ?_)))))
     rcases cond_sf hh with ⟨hb, hh⟩ | ⟨hb, hh⟩
     · exact yb 49 hb (yb 50 hb (yt (sp 67 [z3]) [] 1 (Aw.ret (gvbs hh))))
     exact yb 49 hb (yb 50 hb (yt (sp 67 [z3]) [] 1 (Aw.ret (gvbs hh))))
   refine yb 36 hb (yb 37 hb (yb 38 hb (yu 4 [z20, z22, z24, z26, z29, z30, z31] [z1] 1 ?_)))
   rcases cond_sf hh with ⟨hb, hh⟩ | ⟨hb, hh⟩
   · refine yb 40 hb (yb 41 hb (yb 42 hb (yt (sp 67 [z2, z8, z28]) [z1] 1 (Aw.sreg [2] [] (yu 5 [z32, z33, z34, z35, z37] [z1] 1 ?_)))))
     rcases cond_sf hh with ⟨hb, hh⟩ | ⟨hb, hh⟩
     · exact yb 49 hb (yb 50 hb (yt (sp 67 [z3]) [] 1 (Aw.ret (gvbs hh))))
     exact yb 49 hb (yb 50 hb (yt (sp 67 [z3]) [] 1 (Aw.ret (gvbs hh))))
   refine yb 40 hb (yb 41 hb (yb 42 hb (yt (sp 67 [z2, z8, z27]) [z1] 1 (Aw.sreg [2] [] (yu 5 [z32, z33, z34, z35, z37] [z1] 1 ?_)))))
   rcases cond_sf hh with ⟨hb, hh⟩ | ⟨hb, hh⟩
   · exact yb 49 hb (yb 50 hb (yt (sp 67 [z3]) [] 1 (Aw.ret (gvbs hh))))
   exact yb 49 hb (yb 50 hb (yt (sp 67 [z3]) [] 1 (Aw.ret (gvbs hh))))
 refine yb 16 hb (yb 17 hb (yb 18 hb (yu 5 [(16, bb true), (17, bb true), (18, bb true), (19, .ptr 0 [] 4), (20, ii x_c.Saved), (21, bb (decide (x_c.Saved = (0 : Int)))), (22, bb (decide (x_c.Saved = (0 : Int)))), (23, bb (decide (x_c.Saved = (0 : Int))))] [z1] 1 ?_)))
 rcases cond_sf hh with ⟨hb, hh⟩ | ⟨hb, hh⟩
 · refine yb 21 hb (yb 22 hb (yb 23 hb (yt (sp 67 [z2, z8]) [z1] 1 (Aw.sreg [1, 3, 4] [0] (yu 3 [z4, z6, z11] [z1] 1 ?_)))))
   rcases cond_some hh with ⟨hb, hh⟩ | ⟨hb, hh⟩
   · refine yb 29 hb (yb 30 hb (yt (sp 67 [z2, z8, z27]) [z1] 1 (Aw.sreg [2] [] (yu 5 [z32, z33, z34, z35, z37] [z1] 1 ?_))))
     rcases cond_sf hh with ⟨hb, hh⟩ | ⟨hb, hh⟩
     · exact yb 49 hb (yb 50 hb (yt (sp 67 [z3]) [] 1 (Aw.ret (gvbs hh))))
     exact yb 49 hb (yb 50 hb (yt (sp 67 [z3]) [] 1 (Aw.ret (gvbs hh))))
   refine yb 29 hb (yb 30 hb (yu 4 [z5, z10, z12, z14, z16, z18] [z1] 1 ?_))
   rcases cond_some hh with ⟨hb, hh⟩ | ⟨hb, hh⟩
   · refine yb 32 hb (yb 33 hb (yb 34 hb (yt (sp 67 [z2, z8, z27]) [z1] 1 (Aw.sreg [2] [] (yu 5 [z32, z33, z34, z35, z37] [z1] 1 ?_)))))
     rcases cond_sf hh with ⟨hb, hh⟩ | ⟨hb, hh⟩
     · exact yb 49 hb (yb 50 hb (yt (sp 67 [z3]) [] 1 (Aw.ret (gvbs hh))))
     exact yb 49 hb (yb 50 hb (yt (sp 67 [z3]) [] 1 (Aw.ret (gvbs hh))))
   refine yb 32 hb (yb 33 hb (yb 34 hb (yu 4 [z13, z15, z17, z19, z21, z23, z25] [z1] 1 ?_)))
   rcases cond_some hh with ⟨hb, hh⟩ | ⟨hb, hh⟩
   · refine yb 36 hb (yb 37 hb (yb 38 hb (yt (sp 67 [z2, z8, z27]) [z1] 1 (Aw.sreg [2] [] (yu 5 [z32, z33, z34, z35, z37] [z1] 1 ?_)))))
     rcases cond_sf hh with ⟨hb, hh⟩ | ⟨hb, hh⟩
     · exact yb 49 hb (yb 50 hb (yt (sp 67 [z3]) [] 1 (Aw.ret (gvbs hh))))
     exact yb 49 hb (yb 50 hb (yt (sp 67 [z3]) [] 1 (Aw.ret (gvbs hh))))
   refine yb 36 hb (yb 37 hb (yb 38 hb (yu 4 [z20, z22, z24, z26, z29, z30, z31] [z1] 1 ?_)))
   rcases cond_sf hh with ⟨hb, hh⟩ | ⟨hb, hh⟩
   · refine yb 40 hb (yb 41 hb (yb 42 hb (yt (sp 67 [z2, z8, z28]) [z1] 1 (Aw.sreg [2] [] (yu 5 [z32, z33, z34, z35, z37] [z1] 1 ?_)))))
     rcases cond_sf hh with ⟨hb, hh⟩ | ⟨hb, hh⟩
     · exact yb 49 hb (yb 50 hb (yt (sp 67 [z3]) [] 1 (Aw.ret (gvbs hh))))
     exact yb 49 hb (yb 50 hb (yt (sp 67 [z3]) [] 1 (Aw.ret (gvbs hh))))
   refine yb 40 hb (yb 41 hb (yb 42 hb (yt (sp 67 [z2, z8, z27]) [z1] 1 (Aw.sreg [2] [] (yu 5 [z32, z33, z34, z35, z37] [z1] 1 ?_)))))
   rcases cond_sf hh with ⟨hb, hh⟩ | ⟨hb, hh⟩
   · exact yb 49 hb (yb 50 hb (yt (sp 67 [z3]) [] 1 (Aw.ret (gvbs hh))))
   exact yb 49 hb (yb 50 hb (yt (sp 67 [z3]) [] 1 (Aw.ret (gvbs hh))))
 refine yb 21 hb (yb 22 hb (yb 23 hb (yt (sp 67 [z2, z7]) [z1] 1 (Aw.sreg [1, 3, 4] [0] (yu 3 [z4, z6, z11] [z1] 1 ?_)))))
 rcases cond_some hh with ⟨hb, hh⟩ | ⟨hb, hh⟩
 · refine yb 29 hb (yb 30 hb (yt (sp 67 [z2, z7, z27]) [z1] 1 (Aw.sreg [2] [] (yu 5 [z32, z33, z34, z35, z37] [z1] 1 ?_))))
   rcases cond_sf hh with ⟨hb, hh⟩ | ⟨hb, hh⟩
   · exact yb 49 hb (yb 50 hb (yt (sp 67 [z3]) [] 1 (Aw.ret (gvbs hh))))
   refine yb 49 hb (yb 50 hb (yu 3 [z36, z38, z39, z41, z43] [z1] 1 ?_))
   rcases cond_sf hh with ⟨hb, hh⟩ | ⟨hb, hh⟩
   · exact yb 3 hb (yb 51 hb (yb 52 hb (yb 53 hb (yt (sp 67 [z3]) [] 1 (Aw.ret (gvbs hh))))))
   refine yb 3 hb (yb 51 hb (yb 52 hb (yb 53 hb (yu 5 [z9, z40, z42, z44, z45, z46, z47, z49, z51] [z1] 1 ?_))))
   rcases cond_sf hh with ⟨hb, hh⟩ | ⟨hb, hh⟩
   · exact yb 56 hb (yb 57 hb (yb 58 hb (yt (sp 67 [z3]) [] 1 (Aw.ret (gvbs hh)))))
   refine yb 56 hb (yb 57 hb (yb 58 hb (yu 5 [z48, z50, z52, z53, z54, z55, z56, z57] [z1] 1 ?_)))
   rcases cond_sf hh with ⟨hb, hh⟩ | ⟨hb, hh⟩
   · exact yb 61 hb (yb 62 hb (yb 63 hb (yt (sp 67 [z3]) [] 1 (Aw.ret (gvbs hh)))))
   exact yb 61 hb (yb 62 hb (yb 63 hb (yt (sp 67 [z3]) [] 1 (Aw.ret (gvbs hh)))))
 refine yb 29 hb (yb 30 hb (yu 4 [z5, z10, z12, z14, z16, z18] [z1] 1 ?_))
 rcases cond_some hh with ⟨hb, hh⟩ | ⟨hb, hh⟩
 · refine yb 32 hb (yb 33 hb (yb 34 hb (yt (sp 67 [z2, z7, z27]) [z1] 1 (Aw.sreg [2] [] (yu 5 [z32, z33, z34, z35, z37] [z1] 1 ?_)))))
   rcases cond_sf hh with ⟨hb, hh⟩ | ⟨hb, hh⟩
   · exact yb 49 hb (yb 50 hb (yt (sp 67 [z3]) [] 1 (Aw.ret (gvbs hh))))
   refine yb 49 hb (yb 50 hb (yu 3 [z36, z38, z39, z41, z43] [z1] 1 ?_))
   rcases cond_sf hh with ⟨hb, hh⟩ | ⟨hb, hh⟩
   · exact yb 3 hb (yb 51 hb (yb 52 hb (yb 53 hb (yt (sp 67 [z3]) [] 1 (Aw.ret (gvbs hh))))))
   refine yb 3 hb (yb 51 hb (yb 52 hb (yb 53 hb (yu 5 [z9, z40, z42, z44, z45, z46, z47, z49, z51] [z1] 1 ?_))))
   rcases cond_sf hh with ⟨hb, hh⟩ | ⟨hb, hh⟩
   · exact yb 56 hb (yb 57 hb (yb 58 hb (yt (sp 67 [z3]) [] 1 (Aw.ret (gvbs hh)))))
   refine yb 56 hb (yb 57 hb (yb 58 hb (yu 5 [z48, z50, z52, z53, z54, z55, z56, z57] [z1] 1 ?_)))
   rcases cond_sf hh with ⟨hb, hh⟩ | ⟨hb, hh⟩
   · exact yb 61 hb (yb 62 hb (yb 63 hb (yt (sp 67 [z3]) [] 1 (Aw.ret (gvbs hh)))))
   exact yb 61 hb (yb 62 hb (yb 63 hb (yt (sp 67 [z3]) [] 1 (Aw.ret (gvbs hh)))))
 refine yb 32 hb (yb 33 hb (yb 34 hb (yu 4 [z13, z15, z17, z19, z21, z23, z25] [z1] 1 ?_)))
 rcases cond_some hh with ⟨hb, hh⟩ | ⟨hb, hh⟩
 · refine yb 36 hb (yb 37 hb (yb 38 hb (yt (sp 67 [z2, z7, z27]) [z1] 1 (Aw.sreg [2] [] (yu 5 [z32, z33, z34, z35, z37] [z1] 1 ?_)))))
   rcases cond_sf hh with ⟨hb, hh⟩ | ⟨hb, hh⟩
   · exact yb 49 hb (yb 50 hb (yt (sp 67 [z3]) [] 1 (Aw.ret (gvbs hh))))
   refine yb 49 hb (yb 50 hb (yu 3 [z36, z38, z39, z41, z43] [z1] 1 ?_))
   rcases cond_sf hh with ⟨hb, hh⟩ | ⟨hb, hh⟩
   · exact yb 3 hb (yb 51 hb (yb 52 hb (yb 53 hb (yt (sp 67 [z3]) [] 1 (Aw.ret (gvbs hh))))))
   refine yb 3 hb (yb 51 hb (yb 52 hb (yb 53 hb (yu 5 [z9, z40, z42, z44, z45, z46, z47, z49, z51] [z1] 1 ?_))))
   rcases cond_sf hh with ⟨hb, hh⟩ | ⟨hb, hh⟩
   · exact yb 56 hb (yb 57 hb (yb 58 hb (yt (sp 67 [z3]) [] 1 (Aw.ret (gvbs hh)))))
   refine yb 56 hb (yb 57 hb (yb 58 hb (yu 5 [z48, z50, z52, z53, z54, z55, z56, z57] [z1] 1 ?_)))
   rcases cond_sf hh with ⟨hb, hh⟩ | ⟨hb, hh⟩
   · exact yb 61 hb (yb 62 hb (yb 63 hb (yt (sp 67 [z3]) [] 1 (Aw.ret (gvbs hh)))))
   exact yb 61 hb (yb 62 hb (yb 63 hb (yt (sp 67 [z3]) [] 1 (Aw.ret (gvbs hh)))))
 refine yb 36 hb (yb 37 hb (yb 38 hb (yu 4 [z20, z22, z24, z26, z29, z30, z31] [z1] 1 ?_)))
 rcases cond_sf hh with ⟨hb, hh⟩ | ⟨hb, hh⟩
 · refine yb 40 hb (yb 41 hb (yb 42 hb (yt (sp 67 [z2, z7, z28]) [z1] 1 (Aw.sreg [2] [] (yu 5 [z32, z33, z34, z35, z37] [z1] 1 ?_)))))
   rcases cond_sf hh with ⟨hb, hh⟩ | ⟨hb, hh⟩
   · exact yb 49 hb (yb 50 hb (yt (sp 67 [z3]) [] 1 (Aw.ret (gvbs hh))))
   refine yb 49 hb (yb 50 hb (yu 3 [z36, z38, z39, z41, z43] [z1] 1 ?_))
   rcases cond_sf hh with ⟨hb, hh⟩ | ⟨hb, hh⟩
   · exact yb 3 hb (yb 51 hb (yb 52 hb (yb 53 hb (yt (sp 67 [z3]) [] 1 (Aw.ret (gvbs hh))))))
   refine yb 3 hb (yb 51 hb (yb 52 hb (yb 53 hb (yu 5 [z9, z40, z42, z44, z45, z46, z47, z49, z51] [z1] 1 ?_))))
   rcases cond_sf hh with ⟨hb, hh⟩ | ⟨hb, hh⟩
   · exact yb 56 hb (yb 57 hb (yb 58 hb (yt (sp 67 [z3]) [] 1 (Aw.ret (gvbs hh)))))
   refine yb 56 hb (yb 57 hb (yb 58 hb (yu 5 [z48, z50, z52, z53, z54, z55, z56, z57] [z1] 1 ?_)))
   rcases cond_sf hh with ⟨hb, hh⟩ | ⟨hb, hh⟩
   · exact yb 61 hb (yb 62 hb (yb 63 hb (yt (sp 67 [z3]) [] 1 (Aw.ret (gvbs hh)))))
   exact yb 61 hb (yb 62 hb (yb 63 hb (yt (sp 67 [(2, bb (!x_c.Stopped))]) [] 1 (Aw.ret (gvbs hh)))))
 refine yb 40 hb (yb 41 hb (yb 42 hb (yt (sp 67 [z2, z7, z27]) [z1] 1 (Aw.sreg [2] [] (yu 5 [z32, z33, z34, z35, z37] [z1] 1 ?_)))))
 rcases cond_sf hh with ⟨hb, hh⟩ | ⟨hb, hh⟩
 · exact yb 49 hb (yb 50 hb (yt (sp 67 [z3]) [] 1 (Aw.ret (gvbs hh))))
 refine yb 49 hb (yb 50 hb (yu 3 [z36, z38, z39, z41, z43] [z1] 1 ?_))
 rcases cond_sf hh with ⟨hb, hh⟩ | ⟨hb, hh⟩
 · exact yb 3 hb (yb 51 hb (yb 52 hb (yb 53 hb (yt (sp 67 [z3]) [] 1 (Aw.ret (gvbs hh))))))
 refine yb 3 hb (yb 51 hb (yb 52 hb (yb 53 hb (yu 5 [z9, z40, z42, z44, z45, z46, z47, z49, z51] [z1] 1 ?_))))
 rcases cond_sf hh with ⟨hb, hh⟩ | ⟨hb, hh⟩
 · exact yb 56 hb (yb 57 hb (yb 58 hb (yt (sp 67 [z3]) [] 1 (Aw.ret (gvbs hh)))))
 refine yb 56 hb (yb 57 hb (yb 58 hb (yu 5 [z48, z50, z52, z53, z54, z55, z56, z57] [z1] 1 ?_)))
 rcases cond_sf hh with ⟨hb, hh⟩ | ⟨hb, hh⟩
 · exact yb 61 hb (yb 62 hb (yb 63 hb (yt (sp 67 [z3]) [] 1 (Aw.ret (gvbs hh)))))
 exact yb 61 hb (yb 62 hb (yb 63 hb (yt (sp 67 [z3]) [] 1 (Aw.ret (gvbs hh)))))
theorem low_impl_hasNothing : LW 93 ⟨24, [(.tmp 2)], (.seq (.reg false (rg 93 0)) (.seq (.reg false (rg 93 1)) .ret))⟩ := kr
noncomputable def F_impl_hasNothing (x_guest : DGuest) : Option Bool :=
 Option.bind (F_impl_isNoCore x_guest.C) fun v1 =>
 cond v1
  (cond (decide ((((List.length x_guest.Pages) : Nat) : Int) = (0 : Int)))
   (cond (decide ((((List.length x_guest.In) : Nat) : Int) = (0 : Int)))
    (some (decide ((((List.length x_guest.Out) : Nat) : Int) = (0 : Int))))
    (some false))
   (some false))
  (some false)
theorem impl_hasNothing_fn {x_guest : DGuest} {R_ : Bool} (hh : F_impl_hasNothing x_guest = some R_) : Fn Try.prog 93 [.agg (B_108 x_guest)] (.bool R_) := by
 let z1 : EH := (0, some (rB108 x_guest))
 unfold F_impl_hasNothing at hh
 refine Fn.start low_impl_hasNothing [0] (E := sp 24 [(0, .agg (B_108 x_guest))]) kr (v := bb R_) (Hr := []) (k := 0) kr (sy [1] [0] (sp 24 [(1, pp 0)]) [z1] 1 (Aw.sreg [2] [] (yu 2 [(3, .ptr 0 [] 1), (4, .agg (B_100 x_guest.C))] [z1] 1 ?_)))
 obtain ⟨v1, hv1, hh⟩ := bind_some hh
 refine ys (.call 111 [(.t 4)]) (some 5) (op_call (r := bb v1) (v := bb v1) (Hr := []) (n' := 1) (impl_isNoCore_fn hv1) (clz_v (vs := [.agg (B_100 x_guest.C)]) kr (clz_c (clo_same (clean_agg (cl_B_100 _))) clz_n)) rfl rfl kr ?_)
 refine yu 1 [(5, bb v1), (6, bb v1)] [z1] 1 ?_
 rcases cond_sf hh with ⟨hb, hh⟩ | ⟨hb, hh⟩
 · exact yb 5 hb (yb 6 hb (yt (sp 24 [(2, bb false)]) [] 1 (Aw.ret (gvbs hh))))
 refine yb 5 hb (yb 6 hb (yu 6 [(5, bb true), (6, bb true), (7, .ptr 0 [] 14), (8, bo C_110 x_guest.Pages), (9, ii (((List.length x_guest.Pages) : Nat) : Int)), (10, bb (decide ((((List.length x_guest.Pages) : Nat) : Int) = (0 : Int)))), (11, bb (decide ((((List.length x_guest.Pages) : Nat) : Int) = (0 : Int)))), (12, bb (decide ((((List.length x_guest.Pages) : Nat) : Int) = (0 : Int))))] [z1] 1 ?_))
 rcases cond_sf hh with ⟨hb, hh⟩ | ⟨hb, hh⟩
 · exact yb 10 hb (yb 11 hb (yb 12 hb (yt (sp 24 [(2, bb false)]) [] 1 (Aw.ret (gvbs hh)))))
 refine yb 10 hb (yb 11 hb (yb 12 hb (yu 6 [(10, bb true), (11, bb true), (12, bb true), (13, .ptr 0 [] 15), (14, bo (eI .i64) x_guest.In), (15, ii (((List.length x_guest.In) : Nat) : Int)), (16, bb (decide ((((List.length x_guest.In) : Nat) : Int) = (0 : Int)))), (17, bb (decide ((((List.length x_guest.In) : Nat) : Int) = (0 : Int)))), (18, bb (decide ((((List.length x_guest.In) : Nat) : Int) = (0 : Int))))] [z1] 1 ?_)))
 rcases cond_sf hh with ⟨hb, hh⟩ | ⟨hb, hh⟩
 · exact yb 16 hb (yb 17 hb (yb 18 hb (yt (sp 24 [(2, bb false)]) [] 1 (Aw.ret (gvbs hh)))))
 exact yb 16 hb (yb 17 hb (yb 18 hb (yt (sp 24 [(2, bb (decide ((((List.length x_guest.Out) : Nat) : Int) = (0 : Int))))]) [] 1 (Aw.ret (gvbs hh)))))
theorem low_impl_slotOk : LW 113 ⟨22, [(.tmp 2)], (.seq (.reg false (rg 113 0)) (.seq (.seq (.reg false (rg 113 1)) (.cond (.t 5) (.seq (.reg false (rg 113 2)) .ret) .skip)) (.seq (.reg false (rg 113 3)) .ret)))⟩ := kr
noncomputable def F_impl_slotOk (x_s : DSlot) : Option Bool :=
 cond (decide (x_s.Frame = (-1 : Int)))
  (cond (!x_s.Write)
   (some (!x_s.Dirty))
   (some false))
  (cond (decide ((0 : Int) ≤ x_s.Frame))
   (some (decide (x_s.Frame < (20 : Int))))
   (some false))
theorem impl_slotOk_fn {x_s : DSlot} {R_ : Bool} (hh : F_impl_slotOk x_s = some R_) : Fn Try.prog 113 [.agg (C_110 x_s)] (.bool R_) := by
 let z1 : EH := (0, some ⟨110, (C_110 x_s)⟩); let z2 := (5, bb (decide (x_s.Frame = (-1 : Int))))
 unfold F_impl_slotOk at hh
 refine Fn.start low_impl_slotOk [0] (E := sp 22 [(0, .agg (C_110 x_s))]) kr (v := bb R_) (Hr := []) (k := 0) kr (sy [1] [0] (sp 22 [(1, pp 0)]) [z1] 1 (Aw.seq (sy [1, 5] [0] (sp 22 [(1, pp 0), z2]) [z1] 1 ?_)))
 rcases cond_some hh with ⟨hb, hh⟩ | ⟨hb, hh⟩
 · refine cT hb (Aw.sreg [2] [] (yu 4 [(6, .ptr 0 [] 1), (7, bb x_s.Write), (8, bb (!x_s.Write)), (9, bb (!x_s.Write))] [z1] 1 ?_))
   rcases cond_sf hh with ⟨hb, hh⟩ | ⟨hb, hh⟩
   · exact yb 8 hb (yb 9 hb (yt (sp 22 [(2, bb false)]) [] 1 (Aw.ret (then_r (gvbs hh)))))
   exact yb 8 hb (yb 9 hb (yt (sp 22 [(2, bb (!x_s.Dirty))]) [] 1 (Aw.ret (then_r (gvbs hh)))))
 refine cF hb (Aw.xskip (fun _ _ _ hq => then_m hq) (Aw.sreg [2] [] (yj 4  (sp 22 [(1, pp 0), z2, (14, pp 0), (15, ii x_s.Frame), (16, bb (decide ((0 : Int) ≤ x_s.Frame))), (17, bb (decide ((0 : Int) ≤ x_s.Frame)))]) [z1] 1 ?_)))
 rcases cond_sf hh with ⟨hb, hh⟩ | ⟨hb, hh⟩
 · exact yb 16 hb (yb 17 hb (yt (sp 22 [(2, bb false)]) [] 1 (Aw.ret (gvbs hh))))
 exact yb 16 hb (yb 17 hb (yt (sp 22 [(2, bb (decide (x_s.Frame < (20 : Int))))]) [] 1 (Aw.ret (gvbs hh))))
theorem low_impl_slotsOk : LW 95 ⟨18, [(.tmp 2)], (.seq (.reg false (rg 95 0)) (.seq (.seq (.reg false (rg 95 1)) (.cond (.t 7) (.seq (.reg false (rg 95 2)) .ret) .skip)) (.seq (.seq (.reg false (rg 95 3)) (.block 0 (.loop (.seq (.reg false (rg 95 4)) (.seq (.cond (.t 11) .skip (.exit 0)) (.seq (.block 1 (.seq (.reg false (rg 95 5)) (.seq (.reg false (rg 95 6)) (.cond (.t 16) (.seq (.reg false (rg 95 7)) .ret) .skip)))) (.reg false (rg 95 8)))))))) (.seq (.reg false (rg 95 10)) .ret))))⟩ := kr
noncomputable def F_impl_slotsOk_j1  (s1 : Unit) : Option Bool :=
 some true
noncomputable def F_impl_slotsOk_l2 (x_pages : List DSlot) (s2 : Int) : Option (LO Int (JO Unit Bool)) :=
 cond (decide (s2 < (((List.length x_pages) : Nat) : Int)))
  (grd ((0 : Int) ≤ s2 ∧ s2 < ((List.length x_pages : Nat) : Int)) (Option.bind (F_impl_slotOk (DSlot.mk ((List.getD x_pages (Int.toNat s2) default).Frame) ((List.getD x_pages (Int.toNat s2) default).Write) ((List.getD x_pages (Int.toNat s2) default).Dirty))) fun v3 =>
   cond (!v3)
    (some (.ret (.out false)))
    (some (.next (w64 (s2 + (1 : Int)))))))
  (some (.ret (.go ())))
noncomputable def F_impl_slotsOk (x_pages : List DSlot) : Option Bool :=
 cond (!decide ((((List.length x_pages) : Nat) : Int) = (8 : Int)))
  (some false)
  (Option.bind (Option.bind (iter (F_impl_slotsOk_l2 x_pages) (0 : Int)) LO.val) fun j1 =>
   JO.run j1 (F_impl_slotsOk_j1))
theorem impl_slotsOk_fn {x_pages : List DSlot} {R_ : Bool} (hh : F_impl_slotsOk x_pages = some R_) : Fn Try.prog 95 [bo C_110 x_pages] (.bool R_) := by
 let z2 := (0, bo C_110 x_pages); let z3 := (8, bo C_110 x_pages); let z4 := (9, ii (((List.length x_pages) : Nat) : Int))
 unfold F_impl_slotsOk at hh
 refine Fn.start low_impl_slotsOk [0] (E := sp 18 [z2]) kr (v := bb R_) (Hr := []) (k := 0) kr (sy [0] [] (sp 18 [z2]) [] 0 (Aw.seq (sy [0, 7] [] (sp 18 [z2, (7, bb (!decide ((((List.length x_pages) : Nat) : Int) = (8 : Int))))]) [] 0 ?_)))
 rcases cond_some hh with ⟨hb, hh⟩ | ⟨hb, hh⟩
 · exact cT hb (sy [2] [] (sp 18 [(2, bb false)]) [] 0 (Aw.ret (then_r (gvbs hh))))
 refine cF hb (Aw.xskip (fun _ _ _ hq => then_m hq) ?_)
 obtain ⟨j1, hh, hk1⟩ := bind_some hh
 refine Aw.join (S := Unit) (fun s1 => sp 18 []) (fun s1 => []) 0 (fun s1 => F_impl_slotsOk_j1 s1 = some R_) ?_ ?_
 · intro s1 hh
   unfold F_impl_slotsOk_j1 at hh
   exact sy [2] [] (sp 18 [(2, bb true)]) [] 0 (Aw.ret (gvbs hh))
 intro Q1 hN1 hR1 hE1
 refine sy [8, 9, 10] [] (sp 18 [z3, z4, (10, ii 0)]) [] 0 (Aw.block ?_)
 obtain ⟨o2, hi2, hk2⟩ := bind_some hh
 refine Aw.iter (fun (s2 : Int) => sp 18 [(8, bo C_110 x_pages), (9, ii (((List.length x_pages) : Nat) : Int)), (10, ii s2)]) (fun (s2 : Int) => []) 0 hi2 (el [] (rens_sp kr (ro nr_C_110 (ri (ri rl_n)))) hs_nil) ?_
 intro s2 u2 Q2 hh hN2 hX2 hR2
 let z1 := List.getD x_pages (Int.toNat s2) default
 unfold F_impl_slotsOk_l2 at hh
 refine sy [8, 9, 10, 11] [] (sp 18 [z3, z4, (10, ii s2), (11, bb (decide (s2 < (((List.length x_pages) : Nat) : Int))))]) [] 0 (Aw.seq ?_)
 rcases cond_sf hh with ⟨hb, hh⟩ | ⟨hb, hh⟩
 · refine cF hb (Aw.exit (then_x (hX2 _ _ _ _ _ (some_some hh) ?_)))
   intro hout
   rw [hout] at hk2
   refine blk_x ?_
   obtain rfl := some_some hk2
   exact hN1 () _ _ _ hk1 (el [] (rens_sp kr rl_n) hs_nil)
 refine cT hb (Aw.xskip (fun _ _ _ hq => then_m hq) (Aw.seq (Aw.block (Aw.sreg [4, 8, 9, 10] [0] ?_))))
 obtain ⟨hg24, hh⟩ := grd_some hh
 refine ys (.iadr 3 (.t 8) (.t 10)) (some 12) (op_iadr (kd := .i64) (c := C_110) (xs := x_pages) len_C_110 dd kr kr hg24 ?_)
 refine ys (.load true 3 (.t 12)) (some 13) (op_loadbA (c := C_110) (xs := x_pages) (o := Int.toNat s2 * 3) (i := (Int.toNat s2)) (off := 0) (v := .agg [ii (z1.Frame), bb (z1.Write), bb (z1.Dirty)]) len_C_110 kr ltn ltn dd kr ?_)
 let q1 : Root := ⟨110, [ii (z1.Frame), bb (z1.Write), bb (z1.Dirty)]⟩
 refine yt (sp 18 [(4, pp 0), z3, z4, (10, ii s2)]) [(0, some q1)] 1 (Aw.sreg [8, 9, 10, 16] [] (yu 1 [(14, .agg [ii (z1.Frame), bb (z1.Write), bb (z1.Dirty)])] [(0, some q1)] 1 ?_))
 obtain ⟨v3, hv3, hh⟩ := bind_some hh
 refine ys (.call 113 [(.t 14)]) (some 15) (oc (impl_slotOk_fn hv3) ?_)
 refine yt (sp 18 [z3, z4, (10, ii s2), (16, bb (!v3))]) [] 1 ?_
 rcases cond_sf hh with ⟨hb, hh⟩ | ⟨hb, hh⟩
 · exact cF hb (Aw.xskip (fun _ _ _ hq => blk_m (then_m hq)) (Aw.oreg (ye (sp 18 [z3, z4, (10, ii (w64 (s2 + (1 : Int)))), (16, bb (!v3)), (17, ii (w64 (s2 + (1 : Int))))]) [] 1 (hN2 (w64 (s2 + (1 : Int))) _ _ _ (some_some hh) (el [] (rens_sp kr (ro nr_C_110 (ri (ri rl_n)))) hs_nil)))))
 refine cT hb (sy [2] [] (sp 18 [(2, bb false)]) [] 1 (Aw.ret (blk_r (then_r ?_))))
 refine hR2 _ _ _ _ (some_some hh) ?_
 intro hout
 rw [hout] at hk2
 refine blk_r ?_
 obtain rfl := some_some hk2
 refine hR1 _ _ _ ?_
 rw [some_some hk1]
 exact gvb
theorem low_impl_guestOk : LW 75 ⟨26, [(.tmp 2)], (.seq (.reg false (rg 75 0)) (.seq (.seq (.reg false (rg 75 1)) (.cond (.t 5) (.seq (.reg false (rg 75 2)) .ret) .skip)) (.seq (.reg false (rg 75 3)) .ret)))⟩ := kr
noncomputable def F_impl_guestOk (x_guest : DGuest) : Option Bool :=
 cond (!x_guest.Live)
  (Option.bind (F_impl_hasNothing x_guest) fun v1 =>
  some v1)
  (Option.bind (F_impl_CoreOk x_guest.C) fun v2 =>
  cond v2
   (Option.bind (F_impl_slotsOk x_guest.Pages) fun v3 =>
   cond v3
    (Option.bind (F_impl_rowOk x_guest.In) fun v4 =>
    cond v4
     (Option.bind (F_impl_rowOk x_guest.Out) fun v5 =>
     some v5)
     (some false))
    (some false))
   (some false))
theorem impl_guestOk_fn {x_guest : DGuest} {R_ : Bool} (hh : F_impl_guestOk x_guest = some R_) : Fn Try.prog 75 [.agg (B_108 x_guest)] (.bool R_) := by
 let z1 : EH := (0, some (rB108 x_guest))
 unfold F_impl_guestOk at hh
 refine Fn.start low_impl_guestOk [0] (E := sp 26 [(0, .agg (B_108 x_guest))]) kr (v := bb R_) (Hr := []) (k := 0) kr (sy [1] [0] (sp 26 [(1, pp 0)]) [z1] 1 (Aw.seq (sy [1, 5] [0] (sp 26 [(1, pp 0), (5, bb (!x_guest.Live))]) [z1] 1 ?_)))
 rcases cond_some hh with ⟨hb, hh⟩ | ⟨hb, hh⟩
 · refine cT hb (Aw.sreg [2] [] (yu 1 [(6, .agg (B_108 x_guest))] [z1] 1 ?_))
   obtain ⟨v1, hv1, hh⟩ := bind_some hh
   refine ys (.call 93 [(.t 6)]) (some 7) (op_call (r := bb v1) (v := bb v1) (Hr := []) (n' := 1) (impl_hasNothing_fn hv1) (clz_v (vs := [.agg (B_108 x_guest)]) kr (clz_c (clo_same (clean_agg (cl_B_108 _))) clz_n)) rfl rfl kr ?_)
   exact yt (sp 26 [(2, bb v1)]) [] 1 (Aw.ret (then_r (gvbs hh)))
 refine cF hb (Aw.xskip (fun _ _ _ hq => then_m hq) (Aw.sreg [2] [] (yj 2  (sp 26 [(1, pp 0), (5, bb (!x_guest.Live)), (8, .ptr 0 [] 1), (9, .agg (B_100 x_guest.C))]) [z1] 1 ?_)))
 obtain ⟨v2, hv2, hh⟩ := bind_some hh
 refine ys (.call 94 [(.t 9)]) (some 10) (op_call (r := bb v2) (v := bb v2) (Hr := []) (n' := 1) (impl_CoreOk_fn hv2) (clz_v (vs := [.agg (B_100 x_guest.C)]) kr (clz_c (clo_same (clean_agg (cl_B_100 _))) clz_n)) rfl rfl kr ?_)
 refine yu 1 [(10, bb v2), (11, bb v2)] [z1] 1 ?_
 rcases cond_sf hh with ⟨hb, hh⟩ | ⟨hb, hh⟩
 · exact yb 10 hb (yb 11 hb (yt (sp 26 [(2, bb false)]) [] 1 (Aw.ret (gvbs hh))))
 refine yb 10 hb (yb 11 hb (yu 2 [(10, bb true), (11, bb true), (12, .ptr 0 [] 14), (13, bo C_110 x_guest.Pages)] [z1] 1 ?_))
 obtain ⟨v3, hv3, hh⟩ := bind_some hh
 refine yg (.call 95 [(.t 13)]) (some 14) 11 true (op_call (r := bb v3) (v := bb v3) (Hr := []) (n' := 1) (impl_slotsOk_fn hv3) (clz_v (vs := [bo C_110 x_guest.Pages]) kr (clz_c (clo_same (clean_bor (cleans_fl cl_C_110))) clz_n)) rfl rfl kr ?_)
 refine yu 2 [(14, bb v3), (15, bb v3), (16, bb v3)] [z1] 1 ?_
 rcases cond_sf hh with ⟨hb, hh⟩ | ⟨hb, hh⟩
 · exact yb 14 hb (yb 15 hb (yb 16 hb (yt (sp 26 [(2, bb false)]) [] 1 (Aw.ret (gvbs hh)))))
 refine yb 14 hb (yb 15 hb (yb 16 hb (yu 2 [(14, bb true), (15, bb true), (16, bb true), (17, .ptr 0 [] 15), (18, bo (eI .i64) x_guest.In)] [z1] 1 ?_)))
 obtain ⟨v4, hv4, hh⟩ := bind_some hh
 refine yg (.call 96 [(.t 18)]) (some 19) 16 true (oc (impl_rowOk_fn hv4) ?_)
 refine yu 2 [(19, bb v4), (20, bb v4), (21, bb v4)] [z1] 1 ?_
 rcases cond_sf hh with ⟨hb, hh⟩ | ⟨hb, hh⟩
 · exact yb 19 hb (yb 20 hb (yb 21 hb (yt (sp 26 [(2, bb false)]) [] 1 (Aw.ret (gvbs hh)))))
 refine yb 19 hb (yb 20 hb (yb 21 hb (yu 2 [(19, bb true), (20, bb true), (21, bb true), (22, .ptr 0 [] 16), (23, bo (eI .i64) x_guest.Out)] [z1] 1 ?_)))
 obtain ⟨v5, hv5, hh⟩ := bind_some hh
 refine yg (.call 96 [(.t 23)]) (some 24) 21 true (oc (impl_rowOk_fn hv5) ?_)
 exact yt (sp 26 [(2, bb v5)]) [] 1 (Aw.ret (gvbs hh))
theorem low_impl_guestsOk : LW 41 ⟨18, [(.tmp 2)], (.seq (.reg false (rg 41 0)) (.seq (.seq (.reg false (rg 41 1)) (.cond (.t 7) (.seq (.reg false (rg 41 2)) .ret) .skip)) (.seq (.seq (.reg false (rg 41 3)) (.block 0 (.loop (.seq (.reg false (rg 41 4)) (.seq (.cond (.t 11) .skip (.exit 0)) (.seq (.block 1 (.seq (.reg false (rg 41 5)) (.seq (.reg false (rg 41 6)) (.cond (.t 16) (.seq (.reg false (rg 41 7)) .ret) .skip)))) (.reg false (rg 41 8)))))))) (.seq (.reg false (rg 41 10)) .ret))))⟩ := kr
noncomputable def F_impl_guestsOk_j1  (s1 : Unit) : Option Bool :=
 some true
noncomputable def F_impl_guestsOk_l2 (x_guests : List DGuest) (s2 : Int) : Option (LO Int (JO Unit Bool)) :=
 cond (decide (s2 < (((List.length x_guests) : Nat) : Int)))
  (grd ((0 : Int) ≤ s2 ∧ s2 < ((List.length x_guests : Nat) : Int)) (Option.bind (F_impl_guestOk (DGuest.mk ((List.getD x_guests (Int.toNat s2) default).Live) (DCore.mk (((List.getD x_guests (Int.toNat s2) default).C).Regs) (((List.getD x_guests (Int.toNat s2) default).C).Pc) (((List.getD x_guests (Int.toNat s2) default).C).Root) (((List.getD x_guests (Int.toNat s2) default).C).Vector) (((List.getD x_guests (Int.toNat s2) default).C).Saved) (((List.getD x_guests (Int.toNat s2) default).C).SavedUser) (((List.getD x_guests (Int.toNat s2) default).C).Cause) (((List.getD x_guests (Int.toNat s2) default).C).Bad) (((List.getD x_guests (Int.toNat s2) default).C).Timer) (((List.getD x_guests (Int.toNat s2) default).C).Waits) (((List.getD x_guests (Int.toNat s2) default).C).User) (((List.getD x_guests (Int.toNat s2) default).C).On) (((List.getD x_guests (Int.toNat s2) default).C).Stopped)) ((List.getD x_guests (Int.toNat s2) default).Pages) ((List.getD x_guests (Int.toNat s2) default).In) ((List.getD x_guests (Int.toNat s2) default).Out))) fun v3 =>
   cond (!v3)
    (some (.ret (.out false)))
    (some (.next (w64 (s2 + (1 : Int)))))))
  (some (.ret (.go ())))
noncomputable def F_impl_guestsOk (x_guests : List DGuest) : Option Bool :=
 cond (!decide ((((List.length x_guests) : Nat) : Int) = (3 : Int)))
  (some false)
  (Option.bind (Option.bind (iter (F_impl_guestsOk_l2 x_guests) (0 : Int)) LO.val) fun j1 =>
   JO.run j1 (F_impl_guestsOk_j1))
theorem impl_guestsOk_fn {x_guests : List DGuest} {R_ : Bool} (hh : F_impl_guestsOk x_guests = some R_) : Fn Try.prog 41 [bo B_108 x_guests] (.bool R_) := by
 let z2 := (0, bo B_108 x_guests); let z3 := (8, bo B_108 x_guests); let z4 := (9, ii (((List.length x_guests) : Nat) : Int))
 unfold F_impl_guestsOk at hh
 refine Fn.start low_impl_guestsOk [0] (E := sp 18 [z2]) kr (v := bb R_) (Hr := []) (k := 0) kr (sy [0] [] (sp 18 [z2]) [] 0 (Aw.seq (sy [0, 7] [] (sp 18 [z2, (7, bb (!decide ((((List.length x_guests) : Nat) : Int) = (3 : Int))))]) [] 0 ?_)))
 rcases cond_some hh with ⟨hb, hh⟩ | ⟨hb, hh⟩
 · exact cT hb (sy [2] [] (sp 18 [(2, bb false)]) [] 0 (Aw.ret (then_r (gvbs hh))))
 refine cF hb (Aw.xskip (fun _ _ _ hq => then_m hq) ?_)
 obtain ⟨j1, hh, hk1⟩ := bind_some hh
 refine Aw.join (S := Unit) (fun s1 => sp 18 []) (fun s1 => []) 0 (fun s1 => F_impl_guestsOk_j1 s1 = some R_) ?_ ?_
 · intro s1 hh
   unfold F_impl_guestsOk_j1 at hh
   exact sy [2] [] (sp 18 [(2, bb true)]) [] 0 (Aw.ret (gvbs hh))
 intro Q1 hN1 hR1 hE1
 refine sy [8, 9, 10] [] (sp 18 [z3, z4, (10, ii 0)]) [] 0 (Aw.block ?_)
 obtain ⟨o2, hi2, hk2⟩ := bind_some hh
 refine Aw.iter (fun (s2 : Int) => sp 18 [(8, bo B_108 x_guests), (9, ii (((List.length x_guests) : Nat) : Int)), (10, ii s2)]) (fun (s2 : Int) => []) 0 hi2 (el [] (rens_sp kr (ro nr_B_108 (ri (ri rl_n)))) hs_nil) ?_
 intro s2 u2 Q2 hh hN2 hX2 hR2
 let z1 := List.getD x_guests (Int.toNat s2) default
 unfold F_impl_guestsOk_l2 at hh
 refine sy [8, 9, 10, 11] [] (sp 18 [z3, z4, (10, ii s2), (11, bb (decide (s2 < (((List.length x_guests) : Nat) : Int))))]) [] 0 (Aw.seq ?_)
 rcases cond_sf hh with ⟨hb, hh⟩ | ⟨hb, hh⟩
 · refine cF hb (Aw.exit (then_x (hX2 _ _ _ _ _ (some_some hh) ?_)))
   intro hout
   rw [hout] at hk2
   refine blk_x ?_
   obtain rfl := some_some hk2
   exact hN1 () _ _ _ hk1 (el [] (rens_sp kr rl_n) hs_nil)
 refine cT hb (Aw.xskip (fun _ _ _ hq => then_m hq) (Aw.seq (Aw.block (Aw.sreg [4, 8, 9, 10] [0] ?_))))
 obtain ⟨hg24, hh⟩ := grd_some hh
 refine ys (.iadr 17 (.t 8) (.t 10)) (some 12) (op_iadr (kd := .i64) (c := B_108) (xs := x_guests) len_B_108 dd kr kr hg24 ?_)
 refine ys (.load true 17 (.t 12)) (some 13) (op_loadbA (c := B_108) (xs := x_guests) (o := Int.toNat s2 * 17) (i := (Int.toNat s2)) (off := 0) (v := .agg (B_108 z1)) len_B_108 kr ltn ltn dd kr ?_)
 let q1 : Root := (rB108 z1)
 refine yt (sp 18 [(4, pp 0), z3, z4, (10, ii s2)]) [(0, some q1)] 1 (Aw.sreg [8, 9, 10, 16] [] (yu 1 [(14, .agg (B_108 z1))] [(0, some q1)] 1 ?_))
 obtain ⟨v3, hv3, hh⟩ := bind_some hh
 refine ys (.call 75 [(.t 14)]) (some 15) (op_call (r := bb v3) (v := bb v3) (Hr := []) (n' := 1) (impl_guestOk_fn hv3) (clz_v (vs := [.agg (B_108 z1)]) kr (clz_c (clo_agg cz) clz_n)) rfl rfl kr ?_)
 refine yt (sp 18 [z3, z4, (10, ii s2), (16, bb (!v3))]) [] 1 ?_
 rcases cond_sf hh with ⟨hb, hh⟩ | ⟨hb, hh⟩
 · exact cF hb (Aw.xskip (fun _ _ _ hq => blk_m (then_m hq)) (Aw.oreg (ye (sp 18 [z3, z4, (10, ii (w64 (s2 + (1 : Int)))), (16, bb (!v3)), (17, ii (w64 (s2 + (1 : Int))))]) [] 1 (hN2 (w64 (s2 + (1 : Int))) _ _ _ (some_some hh) (el [] (rens_sp kr (ro nr_B_108 (ri (ri rl_n)))) hs_nil)))))
 refine cT hb (sy [2] [] (sp 18 [(2, bb false)]) [] 1 (Aw.ret (blk_r (then_r ?_))))
 refine hR2 _ _ _ _ (some_some hh) ?_
 intro hout
 rw [hout] at hk2
 refine blk_r ?_
 obtain rfl := some_some hk2
 refine hR1 _ _ _ ?_
 rw [some_some hk1]
 exact gvb
theorem low_impl_frameTakers : LW 76 ⟨35, [(.tmp 2)], (.seq (.reg false (rg 76 0)) (.seq (.reg false (rg 76 1)) (.seq (.seq (.reg false (rg 76 2)) (.block 0 (.loop (.seq (.reg false (rg 76 3)) (.seq (.cond (.t 12) .skip (.exit 0)) (.seq (.block 1 (.seq (.reg false (rg 76 4)) (.seq (.reg false (rg 76 5)) (.block 2 (.loop (.seq (.reg false (rg 76 6)) (.seq (.cond (.t 19) .skip (.exit 2)) (.seq (.block 3 (.seq (.reg false (rg 76 7)) (.seq (.reg false (rg 76 8)) (.cond (.t 24) (.reg false (rg 76 9)) .skip)))) (.reg false (rg 76 10)))))))))) (.reg false (rg 76 12)))))))) (.seq (.reg false (rg 76 14)) .ret))))⟩ := kr
noncomputable def F_impl_frameTakers_j1  (s1 : (List Int)) : Option (List Int) :=
 some s1
noncomputable def F_impl_frameTakers_j3 (s2 : (List Int) × Int) (s3 : (List Int)) : Option (LO ((List Int) × Int) (JO (List Int) (List Int))) :=
 some (.next (s3, (w64 (s2.2 + (1 : Int)))))
noncomputable def F_impl_frameTakers_j5 (s4 : (List Int) × Int) (s5 : (List Int)) : Option (LO ((List Int) × Int) (JO (List Int) (LO ((List Int) × Int) (JO (List Int) (List Int))))) :=
 some (.next (s5, (w64 (s4.2 + (1 : Int)))))
noncomputable def F_impl_frameTakers_l4 (x_guests : List DGuest) (s2 : (List Int) × Int) (s4 : (List Int) × Int) : Option (LO ((List Int) × Int) (JO (List Int) (LO ((List Int) × Int) (JO (List Int) (List Int))))) :=
 cond (decide (s4.2 < (((List.length ((List.getD x_guests (Int.toNat s2.2) default).Pages)) : Nat) : Int)))
  (Option.bind (grd ((0 : Int) ≤ s4.2 ∧ s4.2 < ((List.length ((List.getD x_guests (Int.toNat s2.2) default).Pages) : Nat) : Int)) (cond (!decide (((List.getD ((List.getD x_guests (Int.toNat s2.2) default).Pages) (Int.toNat s4.2) default).Frame) = (-1 : Int)))
   (grd ((0 : Int) ≤ ((List.getD ((List.getD x_guests (Int.toNat s2.2) default).Pages) (Int.toNat s4.2) default).Frame) ∧ ((List.getD ((List.getD x_guests (Int.toNat s2.2) default).Pages) (Int.toNat s4.2) default).Frame) < (((List.length s4.1) : Nat) : Int)) (grd ((0 : Int) ≤ ((List.getD ((List.getD x_guests (Int.toNat s2.2) default).Pages) (Int.toNat s4.2) default).Frame) ∧ ((List.getD ((List.getD x_guests (Int.toNat s2.2) default).Pages) (Int.toNat s4.2) default).Frame) < (((List.length s4.1) : Nat) : Int)) (some (.go (List.set s4.1 (Int.toNat ((List.getD ((List.getD x_guests (Int.toNat s2.2) default).Pages) (Int.toNat s4.2) default).Frame)) (w64 ((List.getD s4.1 (Int.toNat ((List.getD ((List.getD x_guests (Int.toNat s2.2) default).Pages) (Int.toNat s4.2) default).Frame)) default) + (1 : Int))))))))
   (some (.go s4.1)))) fun j5 =>
   JO.run j5 (F_impl_frameTakers_j5 s4))
  (some (.ret (.go s4.1)))
noncomputable def F_impl_frameTakers_l2 (x_guests : List DGuest) (s2 : (List Int) × Int) : Option (LO ((List Int) × Int) (JO (List Int) (List Int))) :=
 cond (decide (s2.2 < (((List.length x_guests) : Nat) : Int)))
  (Option.bind (grd ((0 : Int) ≤ s2.2 ∧ s2.2 < ((List.length x_guests : Nat) : Int)) (Option.bind (iter (F_impl_frameTakers_l4 x_guests s2) (s2.1, (0 : Int))) LO.val)) fun j3 =>
   JO.run j3 (F_impl_frameTakers_j3 s2))
  (some (.ret (.go s2.1)))
noncomputable def F_impl_frameTakers (x_guests : List DGuest) : Option (List Int) :=
 Option.bind (Option.bind (iter (F_impl_frameTakers_l2 x_guests) ((List.replicate (Int.toNat (20 : Int)) (0 : Int)), (0 : Int))) LO.val) fun j1 =>
  JO.run j1 (F_impl_frameTakers_j1)
theorem impl_frameTakers_fn {x_guests : List DGuest} {R_ : (List Int)} (hh : F_impl_frameTakers x_guests = some R_) : Fn Try.prog 76 [bo B_108 x_guests] (.own 3 1 (List.length R_) (fl (eI .i64) R_)) := by
 let z5 := (0, bo B_108 x_guests); let z6 := (10, ii (((List.length x_guests) : Nat) : Int)); let z7 : EV := (3, .sref 0 [] 0 (List.length (List.replicate (Int.toNat (20 : Int)) (0 : Int))) 1); let z8 := (9, bo B_108 x_guests)
 unfold F_impl_frameTakers at hh
 refine Fn.start low_impl_frameTakers [0] (E := sp 35 [z5]) kr (v := sw 0 R_) (Hr := [(0, some (rI_3 R_))]) (k := 1) kr (sy [0] [] (sp 35 [z5]) [] 0 (Aw.sreg [0, 3] [0] (ys (.mk 3 1 8 [(ii 0)] (.c (ii 20))) (some 8) (op_mk (c := (eI .i64)) (d := (0 : Int)) (k := (20 : Int)) kr dd kr ?_))))
 let q1 : Root := (rI_3 (List.replicate (Int.toNat (20 : Int)) (0 : Int)))
 refine yt (sp 35 [z5, z7]) [(0, some q1)] 1 ?_
 obtain ⟨j1, hh, hk1⟩ := bind_some hh
 refine Aw.join (S := (List Int)) (fun s1 => sp 35 [(3, sw 0 s1)]) (fun s1 => [(0, some (rI_3 s1))]) 1 (fun s1 => F_impl_frameTakers_j1 s1 = some R_) ?_ ?_
 · intro s1 hh
   unfold F_impl_frameTakers_j1 at hh
   refine sy [2] [0] (sp 35 [(2, sw 0 s1)]) [(0, some (rI_3 s1))] 1 (Aw.ret ?_)
   rw [some_some hh]
   exact gives (r' := sw 0 s1) kr (Ent.list [some 0] rfl rfl (Nat.zero_le _) (rens_1 ren_sy) (hn nr_eI hs_nil))
 intro Q1 hN1 hR1 hE1
 refine sy [3, 9, 10, 11] [0] (sp 35 [z7, z8, z6, (11, ii 0)]) [(0, some q1)] 1 (Aw.block ?_)
 obtain ⟨o2, hi2, hk2⟩ := bind_some hh
 refine Aw.iter (fun (s2 : (List Int) × Int) => sp 35 [(3, sw 0 s2.1), (9, bo B_108 x_guests), (10, ii (((List.length x_guests) : Nat) : Int)), (11, ii s2.2)]) (fun (s2 : (List Int) × Int) => [(0, some (rI_3 s2.1))]) 1 hi2 (el [some 0] (rens_sp kr (rs (.sref 0 [] 0 (List.length (List.replicate (Int.toNat (20 : Int)) (0 : Int))) 1) (ro nr_B_108 (ri (ri rl_n))))) (hn nr_eI hs_nil)) ?_
 intro s2 u2 Q2 hh hN2 hX2 hR2
 let z9 : EH := (0, some (rI_3 s2.1)); let z10 := (11, ii s2.2); let z1 := List.getD x_guests (Int.toNat s2.2) default; let z11 := (16, bo C_110 (z1.Pages)); let z12 := (17, ii (((List.length (z1.Pages)) : Nat) : Int))
 unfold F_impl_frameTakers_l2 at hh
 refine sy [3, 9, 10, 11, 12] [0] (sp 35 [(3, sw 0 s2.1), z8, z6, z10, (12, bb (decide (s2.2 < (((List.length x_guests) : Nat) : Int))))]) [z9] 1 (Aw.seq ?_)
 rcases cond_sf hh with ⟨hb, hh⟩ | ⟨hb, hh⟩
 · refine cF hb (Aw.exit (then_x (hX2 _ _ _ _ _ (some_some hh) ?_)))
   intro hout
   rw [hout] at hk2
   refine blk_x ?_
   obtain rfl := some_some hk2
   exact hN1 s2.1 _ _ _ hk1 (el [some 0] (rens_sp kr (rs (sw 0 s2.1) rl_n)) (hn nr_eI hs_nil))
 refine cT hb (Aw.xskip (fun _ _ _ hq => then_m hq) ?_)
 obtain ⟨j3, hh, hk3⟩ := bind_some hh
 refine Aw.join (S := (List Int)) (fun s3 => sp 35 [(3, sw 0 s3), (9, bo B_108 x_guests), (10, ii (((List.length x_guests) : Nat) : Int)), (11, ii s2.2)]) (fun s3 => [(0, some (rI_3 s3))]) 1 (fun s3 => F_impl_frameTakers_j3 s2 s3 = some u2) ?_ ?_
 · intro s3 hh
   unfold F_impl_frameTakers_j3 at hh
   exact Aw.oreg (ye (sp 35 [(3, sw 0 s3), z8, z6, (11, ii (w64 (s2.2 + (1 : Int)))), (33, ii (w64 (s2.2 + (1 : Int))))]) [(0, some (rI_3 s3))] 1 (hN2 (s3, (w64 (s2.2 + (1 : Int)))) _ _ _ (some_some hh) (el [some 0] (rens_sp kr (rs (sw 0 s3) (ro nr_B_108 (ri (ri rl_n))))) (hn nr_eI hs_nil))))
 intro Q3 hN3 hR3 hE3
 refine Aw.block (Aw.sreg [3, 5, 9, 10, 11] [0, 1] ?_)
 obtain ⟨hg618, hh⟩ := grd_some hh
 refine ys (.iadr 17 (.t 9) (.t 11)) (some 13) (op_iadr (kd := .i64) (c := B_108) (xs := x_guests) len_B_108 dd kr kr hg618 ?_)
 refine ys (.load true 17 (.t 13)) (some 14) (op_loadbA (c := B_108) (xs := x_guests) (o := Int.toNat s2.2 * 17) (i := (Int.toNat s2.2)) (off := 0) (v := .agg (B_108 z1)) len_B_108 kr ltn ltn dd kr ?_)
 refine yt (sp 35 [(3, sw 0 s2.1), (5, pp 1), z8, z6, z10]) [z9, (1, some (rB108 z1))] 2 (sy [3, 9, 10, 11, 16, 17, 18] [0] (sp 35 [(3, sw 0 s2.1), z8, z6, z10, z11, z12, (18, ii 0)]) [z9] 2 (Aw.block ?_))
 obtain ⟨o4, hi4, hk4⟩ := bind_some hh
 refine Aw.iter (fun (s4 : (List Int) × Int) => sp 35 [(3, sw 0 s4.1), (9, bo B_108 x_guests), (10, ii (((List.length x_guests) : Nat) : Int)), (11, ii s2.2), (16, bo C_110 ((List.getD x_guests (Int.toNat s2.2) default).Pages)), (17, ii (((List.length ((List.getD x_guests (Int.toNat s2.2) default).Pages)) : Nat) : Int)), (18, ii s4.2)]) (fun (s4 : (List Int) × Int) => [(0, some (rI_3 s4.1))]) 1 hi4 (el [some 0] (rens_sp kr (rs (sw 0 s2.1) (ro nr_B_108 (ri (ri (ro nr_C_110 (ri (ri rl_n)))))))) (hn nr_eI hs_nil)) ?_
 intro s4 u4 Q4 hh hN4 hX4 hR4
 let z13 : EH := (0, some (rI_3 s4.1)); let z14 := (18, ii s4.2); let z15 := (3, sw 0 s4.1); let z2 := List.getD (z1.Pages) (Int.toNat s4.2) default; let z16 := (24, bb (!decide ((z2.Frame) = (-1 : Int)))); let z17 := (27, ii (z2.Frame)); let z18 : EV := (28, .ptr 0 [] (0 + (Int.toNat (z2.Frame)) * 1)); let z19 : EV := (31, .ptr 0 [] (0 + (Int.toNat (z2.Frame)) * 1)); let z3 := List.getD s4.1 (Int.toNat (z2.Frame)) default; let z20 := (30, ii (w64 (z3 + (1 : Int)))); let z4 := List.set s4.1 (Int.toNat (z2.Frame)) (w64 (z3 + (1 : Int)))
 unfold F_impl_frameTakers_l4 at hh
 refine sy [3, 9, 10, 11, 16, 17, 18, 19] [0] (sp 35 [z15, z8, z6, z10, z11, z12, z14, (19, bb (decide (s4.2 < (((List.length (z1.Pages)) : Nat) : Int))))]) [z13] 1 (Aw.seq ?_)
 rcases cond_sf hh with ⟨hb, hh⟩ | ⟨hb, hh⟩
 · refine cF hb (Aw.exit (then_x (hX4 _ _ _ _ _ (some_some hh) ?_)))
   intro hout
   rw [hout] at hk4
   refine blk_x (blk_m ?_)
   obtain rfl := some_some hk4
   exact hN3 s4.1 _ _ _ hk3 (el [some 0] (rens_sp kr (rs (sw 0 s4.1) (ro nr_B_108 (ri (ri rl_n))))) (hn nr_eI hs_nil))
 refine cT hb (Aw.xskip (fun _ _ _ hq => then_m hq) ?_)
 obtain ⟨j5, hh, hk5⟩ := bind_some hh
 refine Aw.join (S := (List Int)) (fun s5 => sp 35 [(3, sw 0 s5), (9, bo B_108 x_guests), (10, ii (((List.length x_guests) : Nat) : Int)), (11, ii s2.2), (16, bo C_110 ((List.getD x_guests (Int.toNat s2.2) default).Pages)), (17, ii (((List.length ((List.getD x_guests (Int.toNat s2.2) default).Pages)) : Nat) : Int)), (18, ii s4.2)]) (fun s5 => [(0, some (rI_3 s5))]) 1 (fun s5 => F_impl_frameTakers_j5 s4 s5 = some u4) ?_ ?_
 · intro s5 hh
   unfold F_impl_frameTakers_j5 at hh
   exact Aw.oreg (ye (sp 35 [(3, sw 0 s5), z8, z6, z10, z11, z12, (18, ii (w64 (s4.2 + (1 : Int)))), (32, ii (w64 (s4.2 + (1 : Int))))]) [(0, some (rI_3 s5))] 1 (hN4 (s5, (w64 (s4.2 + (1 : Int)))) _ _ _ (some_some hh) (el [some 0] (rens_sp kr (rs (sw 0 s5) (ro nr_B_108 (ri (ri (ro nr_C_110 (ri (ri rl_n)))))))) (hn nr_eI hs_nil))))
 intro Q5 hN5 hR5 hE5
 refine Aw.block (Aw.sreg [3, 7, 9, 10, 11, 16, 17, 18] [0, 1] ?_)
 obtain ⟨hg668, hh⟩ := grd_some hh
 refine ys (.iadr 3 (.t 16) (.t 18)) (some 20) (op_iadr (kd := .i64) (c := C_110) (xs := z1.Pages) len_C_110 dd kr kr hg668 ?_)
 refine ys (.load true 3 (.t 20)) (some 21) (op_loadbA (c := C_110) (xs := z1.Pages) (o := Int.toNat s4.2 * 3) (i := (Int.toNat s4.2)) (off := 0) (v := .agg [ii (z2.Frame), bb (z2.Write), bb (z2.Dirty)]) len_C_110 kr ltn ltn dd kr ?_)
 let q2 : Root := ⟨110, [ii (z2.Frame), bb (z2.Write), bb (z2.Dirty)]⟩; let z21 := (1, some q2)
 refine yt (sp 35 [z15, (7, pp 1), z8, z6, z10, z11, z12, z14]) [z13, z21] 2 (sy [3, 7, 9, 10, 11, 16, 17, 18, 24] [0, 1] (sp 35 [z15, (7, pp 1), z8, z6, z10, z11, z12, z14, z16]) [z13, z21] 2 ?_)
 rcases cond_sf hh with ⟨hb, hh⟩ | ⟨hb, hh⟩
 · refine cF hb (Aw.skip (blk_m ?_))
   obtain rfl := some_some hh
   exact hN5 s4.1 _ _ _ hk5 (el [some 0] (rens_sp kr (rs (sw 0 s4.1) (ro nr_B_108 (ri (ri (ro nr_C_110 (ri (ri rl_n)))))))) (hn nr_eI hs_nil))
 refine cT hb (Aw.oreg ?_)
 obtain ⟨hg672, hh⟩ := grd_some hh
 refine yjc 4 [(0 : Int) ≤ (z2.Frame) ∧ (z2.Frame) < (((List.length s4.1) : Nat) : Int)] (sp 35 [z15, (7, pp 1), z8, z6, z10, z11, z12, z14, z16, (25, sw 0 s4.1), (26, pp 1), z17, z18]) [z13, z21] 2 (.cons hg672 .nil) (ys (.load false 1 (.t 28)) (some 29) (op_load (c := (eI .i64)) (xs := s4.1) (e := 3) (r := 0) (π := []) (o := 0 + (Int.toNat (z2.Frame)) * 1) (i := (Int.toNat (z2.Frame))) (off := 0) (v := ii z3) len_eI kr kr ltn ltn dd kr ?_))
 obtain ⟨hg671, hh⟩ := grd_some hh
 refine yjc 2 [(0 : Int) ≤ (z2.Frame) ∧ (z2.Frame) < (((List.length s4.1) : Nat) : Int)] (sp 35 [z15, (7, pp 1), z8, z6, z10, z11, z12, z14, z16, (25, sw 0 s4.1), (26, pp 1), z17, z18, (29, ii z3), z20, z19]) [z13, z21] 2 (.cons hg671 .nil) ?_
 let q3 : Root := (rI_3 z4)
 refine ys (.store 1 (.t 31) (.t 30)) none (op_store (c := (eI .i64)) (xs := s4.1) (e := 3) (r := 0) (π := []) (o := 0 + (Int.toNat (z2.Frame)) * 1) (i := (Int.toNat (z2.Frame))) (off := 0) (vs := [ii (w64 (z3 + (1 : Int)))]) (y := (w64 (z3 + (1 : Int)))) (H' := [(0, some q3), z13, z21]) len_eI kr kr kr kr ltn ltn dd kr kr ?_)
 refine ye (sp 35 [z15, (7, pp 1), z8, z6, z10, z11, z12, z14, z16, (25, sw 0 s4.1), (26, pp 1), z17, z18, (29, ii z3), z20, z19]) [(0, some q3), z13, z21] 2 (blk_m ?_)
 obtain rfl := some_some hh
 exact hN5 z4 _ _ _ hk5 (el [some 0] (rens_sp kr (rs (sw 0 s4.1) (ro nr_B_108 (ri (ri (ro nr_C_110 (ri (ri rl_n)))))))) (hn nr_eI hs_nil))
theorem low_impl_writersAreAlone : LW 42 ⟨35, [(.tmp 2)], (.seq (.reg false (rg 42 0)) (.seq (.reg false (rg 42 1)) (.seq (.seq (.reg false (rg 42 2)) (.block 0 (.loop (.seq (.reg false (rg 42 3)) (.seq (.cond (.t 13) .skip (.exit 0)) (.seq (.block 1 (.seq (.reg false (rg 42 4)) (.seq (.reg false (rg 42 5)) (.block 2 (.loop (.seq (.reg false (rg 42 6)) (.seq (.cond (.t 20) .skip (.exit 2)) (.seq (.block 3 (.seq (.reg false (rg 42 7)) (.seq (.reg false (rg 42 8)) (.cond (.t 32) (.seq (.reg false (rg 42 9)) .ret) .skip)))) (.reg false (rg 42 10)))))))))) (.reg false (rg 42 12)))))))) (.seq (.reg false (rg 42 14)) .ret))))⟩ := kr
noncomputable def F_impl_writersAreAlone_j2  (s2 : Unit) : Option Bool :=
 some true
noncomputable def F_impl_writersAreAlone_j4 (s3 : Int) (s4 : Unit) : Option (LO Int (JO Unit Bool)) :=
 some (.next (w64 (s3 + (1 : Int))))
noncomputable def F_impl_writersAreAlone_j6 (s5 : Int) (s6 : Unit) : Option (LO Int (JO Unit (LO Int (JO Unit Bool)))) :=
 some (.next (w64 (s5 + (1 : Int))))
noncomputable def F_impl_writersAreAlone_l5 (x_guests : List DGuest) (v1 : (List Int)) (s3 : Int) (s5 : Int) : Option (LO Int (JO Unit (LO Int (JO Unit Bool)))) :=
 cond (decide (s5 < (((List.length ((List.getD x_guests (Int.toNat s3) default).Pages)) : Nat) : Int)))
  (Option.bind (grd ((0 : Int) ≤ s5 ∧ s5 < ((List.length ((List.getD x_guests (Int.toNat s3) default).Pages) : Nat) : Int)) (cond ((List.getD ((List.getD x_guests (Int.toNat s3) default).Pages) (Int.toNat s5) default).Write)
   (grd ((0 : Int) ≤ ((List.getD ((List.getD x_guests (Int.toNat s3) default).Pages) (Int.toNat s5) default).Frame) ∧ ((List.getD ((List.getD x_guests (Int.toNat s3) default).Pages) (Int.toNat s5) default).Frame) < (((List.length v1) : Nat) : Int)) (cond (decide ((1 : Int) < (List.getD v1 (Int.toNat ((List.getD ((List.getD x_guests (Int.toNat s3) default).Pages) (Int.toNat s5) default).Frame)) default)))
    (some (.out (.ret (.out (.ret (.out false))))))
    (some (.go ()))))
   (some (.go ())))) fun j6 =>
   JO.run j6 (F_impl_writersAreAlone_j6 s5))
  (some (.ret (.go ())))
noncomputable def F_impl_writersAreAlone_l3 (x_guests : List DGuest) (v1 : (List Int)) (s3 : Int) : Option (LO Int (JO Unit Bool)) :=
 cond (decide (s3 < (((List.length x_guests) : Nat) : Int)))
  (Option.bind (grd ((0 : Int) ≤ s3 ∧ s3 < ((List.length x_guests : Nat) : Int)) (Option.bind (iter (F_impl_writersAreAlone_l5 x_guests v1 s3) (0 : Int)) LO.val)) fun j4 =>
   JO.run j4 (F_impl_writersAreAlone_j4 s3))
  (some (.ret (.go ())))
noncomputable def F_impl_writersAreAlone (x_guests : List DGuest) : Option Bool :=
 Option.bind (F_impl_frameTakers x_guests) fun v1 =>
 Option.bind (Option.bind (iter (F_impl_writersAreAlone_l3 x_guests v1) (0 : Int)) LO.val) fun j2 =>
  JO.run j2 (F_impl_writersAreAlone_j2)
theorem impl_writersAreAlone_fn {x_guests : List DGuest} {R_ : Bool} (hh : F_impl_writersAreAlone x_guests = some R_) : Fn Try.prog 42 [bo B_108 x_guests] (.bool R_) := by
 let z4 := (0, bo B_108 x_guests); let z5 := (10, bo B_108 x_guests); let z6 := (11, ii (((List.length x_guests) : Nat) : Int))
 unfold F_impl_writersAreAlone at hh
 refine Fn.start low_impl_writersAreAlone [0] (E := sp 35 [z4]) kr (v := bb R_) (Hr := []) (k := 0) kr (sy [0] [] (sp 35 [z4]) [] 0 (Aw.sreg [0, 3] [0] (yu 1 [(8, bo B_108 x_guests)] [] 0 ?_)))
 obtain ⟨v1, hv1, hh⟩ := bind_some hh
 let z7 : EH := (0, some (rI_3 v1)); let z8 := (3, sw 0 v1)
 refine ys (.call 76 [(.t 8)]) (some 9) (op_call (r := .own 3 1 (List.length v1) (fl (eI .i64) v1)) (v := sw 0 v1) (Hr := [z7]) (n' := 1) (impl_frameTakers_fn hv1) (clz_v (vs := [bo B_108 x_guests]) kr (clz_c (clo_same (clean_bor (cleans_fl cl_B_108))) clz_n)) nrr nrr kr ?_)
 refine yt (sp 35 [z4, z8]) [z7] 1 ?_
 obtain ⟨j2, hh, hk2⟩ := bind_some hh
 refine Aw.join (S := Unit) (fun s2 => sp 35 []) (fun s2 => []) 0 (fun s2 => F_impl_writersAreAlone_j2 s2 = some R_) ?_ ?_
 · intro s2 hh
   unfold F_impl_writersAreAlone_j2 at hh
   exact sy [2] [] (sp 35 [(2, bb true)]) [] 0 (Aw.ret (gvbs hh))
 intro Q2 hN2 hR2 hE2
 refine sy [3, 10, 11, 12] [0] (sp 35 [z8, z5, z6, (12, ii 0)]) [z7] 1 (Aw.block ?_)
 obtain ⟨o3, hi3, hk3⟩ := bind_some hh
 refine Aw.iter (fun (s3 : Int) => sp 35 [(3, sw 0 v1), (10, bo B_108 x_guests), (11, ii (((List.length x_guests) : Nat) : Int)), (12, ii s3)]) (fun (s3 : Int) => [(0, some (rI_3 v1))]) 1 hi3 (el [some 0] (rens_sp kr (rs (sw 0 v1) (ro nr_B_108 (ri (ri rl_n))))) (hn nr_eI hs_nil)) ?_
 intro s3 u3 Q3 hh hN3 hX3 hR3
 let z9 := (12, ii s3); let z1 := List.getD x_guests (Int.toNat s3) default; let z10 := (17, bo C_110 (z1.Pages)); let z11 := (18, ii (((List.length (z1.Pages)) : Nat) : Int))
 unfold F_impl_writersAreAlone_l3 at hh
 refine sy [3, 10, 11, 12, 13] [0] (sp 35 [z8, z5, z6, z9, (13, bb (decide (s3 < (((List.length x_guests) : Nat) : Int))))]) [z7] 1 (Aw.seq ?_)
 rcases cond_sf hh with ⟨hb, hh⟩ | ⟨hb, hh⟩
 · refine cF hb (Aw.exit (then_x (hX3 _ _ _ _ _ (some_some hh) ?_)))
   intro hout
   rw [hout] at hk3
   refine blk_x ?_
   obtain rfl := some_some hk3
   exact hN2 () _ _ _ hk2 (el [] (rens_sp kr rl_n) hs_nil)
 refine cT hb (Aw.xskip (fun _ _ _ hq => then_m hq) ?_)
 obtain ⟨j4, hh, hk4⟩ := bind_some hh
 refine Aw.join (S := Unit) (fun s4 => sp 35 [(3, sw 0 v1), (10, bo B_108 x_guests), (11, ii (((List.length x_guests) : Nat) : Int)), (12, ii s3)]) (fun s4 => [(0, some (rI_3 v1))]) 1 (fun s4 => F_impl_writersAreAlone_j4 s3 s4 = some u3) ?_ ?_
 · intro s4 hh
   unfold F_impl_writersAreAlone_j4 at hh
   exact Aw.oreg (ye (sp 35 [z8, z5, z6, (12, ii (w64 (s3 + (1 : Int)))), (34, ii (w64 (s3 + (1 : Int))))]) [z7] 1 (hN3 (w64 (s3 + (1 : Int))) _ _ _ (some_some hh) (el [some 0] (rens_sp kr (rs (sw 0 v1) (ro nr_B_108 (ri (ri rl_n))))) (hn nr_eI hs_nil))))
 intro Q4 hN4 hR4 hE4
 refine Aw.block (Aw.sreg [3, 5, 10, 11, 12] [0, 1] ?_)
 obtain ⟨hg420, hh⟩ := grd_some hh
 refine ys (.iadr 17 (.t 10) (.t 12)) (some 14) (op_iadr (kd := .i64) (c := B_108) (xs := x_guests) len_B_108 dd kr kr hg420 ?_)
 refine ys (.load true 17 (.t 14)) (some 15) (op_loadbA (c := B_108) (xs := x_guests) (o := Int.toNat s3 * 17) (i := (Int.toNat s3)) (off := 0) (v := .agg (B_108 z1)) len_B_108 kr ltn ltn dd kr ?_)
 refine yt (sp 35 [z8, (5, pp 1), z5, z6, z9]) [z7, (1, some (rB108 z1))] 2 (sy [3, 10, 11, 12, 17, 18, 19] [0] (sp 35 [z8, z5, z6, z9, z10, z11, (19, ii 0)]) [z7] 2 (Aw.block ?_))
 obtain ⟨o5, hi5, hk5⟩ := bind_some hh
 refine Aw.iter (fun (s5 : Int) => sp 35 [(3, sw 0 v1), (10, bo B_108 x_guests), (11, ii (((List.length x_guests) : Nat) : Int)), (12, ii s3), (17, bo C_110 ((List.getD x_guests (Int.toNat s3) default).Pages)), (18, ii (((List.length ((List.getD x_guests (Int.toNat s3) default).Pages)) : Nat) : Int)), (19, ii s5)]) (fun (s5 : Int) => [(0, some (rI_3 v1))]) 1 hi5 (el [some 0] (rens_sp kr (rs (sw 0 v1) (ro nr_B_108 (ri (ri (ro nr_C_110 (ri (ri rl_n)))))))) (hn nr_eI hs_nil)) ?_
 intro s5 u5 Q5 hh hN5 hX5 hR5
 let z12 := (19, ii s5); let z2 := List.getD (z1.Pages) (Int.toNat s5) default; let z3 := List.getD v1 (Int.toNat (z2.Frame)) default
 unfold F_impl_writersAreAlone_l5 at hh
 refine sy [3, 10, 11, 12, 17, 18, 19, 20] [0] (sp 35 [z8, z5, z6, z9, z10, z11, z12, (20, bb (decide (s5 < (((List.length (z1.Pages)) : Nat) : Int))))]) [z7] 1 (Aw.seq ?_)
 rcases cond_sf hh with ⟨hb, hh⟩ | ⟨hb, hh⟩
 · refine cF hb (Aw.exit (then_x (hX5 _ _ _ _ _ (some_some hh) ?_)))
   intro hout
   rw [hout] at hk5
   refine blk_x (blk_m ?_)
   obtain rfl := some_some hk5
   exact hN4 () _ _ _ hk4 (el [some 0] (rens_sp kr (rs (sw 0 v1) (ro nr_B_108 (ri (ri rl_n))))) (hn nr_eI hs_nil))
 refine cT hb (Aw.xskip (fun _ _ _ hq => then_m hq) ?_)
 obtain ⟨j6, hh, hk6⟩ := bind_some hh
 refine Aw.join (S := Unit) (fun s6 => sp 35 [(3, sw 0 v1), (10, bo B_108 x_guests), (11, ii (((List.length x_guests) : Nat) : Int)), (12, ii s3), (17, bo C_110 ((List.getD x_guests (Int.toNat s3) default).Pages)), (18, ii (((List.length ((List.getD x_guests (Int.toNat s3) default).Pages)) : Nat) : Int)), (19, ii s5)]) (fun s6 => [(0, some (rI_3 v1))]) 1 (fun s6 => F_impl_writersAreAlone_j6 s5 s6 = some u5) ?_ ?_
 · intro s6 hh
   unfold F_impl_writersAreAlone_j6 at hh
   exact Aw.oreg (ye (sp 35 [z8, z5, z6, z9, z10, z11, (19, ii (w64 (s5 + (1 : Int)))), (33, ii (w64 (s5 + (1 : Int))))]) [z7] 1 (hN5 (w64 (s5 + (1 : Int))) _ _ _ (some_some hh) (el [some 0] (rens_sp kr (rs (sw 0 v1) (ro nr_B_108 (ri (ri (ro nr_C_110 (ri (ri rl_n)))))))) (hn nr_eI hs_nil))))
 intro Q6 hN6 hR6 hE6
 refine Aw.block (Aw.sreg [3, 7, 10, 11, 12, 17, 18, 19] [0, 1] ?_)
 obtain ⟨hg454, hh⟩ := grd_some hh
 refine ys (.iadr 3 (.t 17) (.t 19)) (some 21) (op_iadr (kd := .i64) (c := C_110) (xs := z1.Pages) len_C_110 dd kr kr hg454 ?_)
 refine ys (.load true 3 (.t 21)) (some 22) (op_loadbA (c := C_110) (xs := z1.Pages) (o := Int.toNat s5 * 3) (i := (Int.toNat s5)) (off := 0) (v := .agg [ii (z2.Frame), bb (z2.Write), bb (z2.Dirty)]) len_C_110 kr ltn ltn dd kr ?_)
 let q1 : Root := ⟨110, [ii (z2.Frame), bb (z2.Write), bb (z2.Dirty)]⟩
 refine yt (sp 35 [z8, (7, pp 1), z5, z6, z9, z10, z11, z12]) [z7, (1, some q1)] 2 (Aw.sreg [3, 10, 11, 12, 17, 18, 19, 32] [0] (yu 3 [(23, .ptr 1 [] 1), (24, bb (z2.Write)), (25, bb (z2.Write))] [z7, (1, some q1)] 2 ?_))
 rcases cond_sf hh with ⟨hb, hh⟩ | ⟨hb, hh⟩
 · refine yb 24 hb (yb 25 hb (yt (sp 35 [z8, z5, z6, z9, z10, z11, z12, (32, bb false)]) [z7] 2 (cF rfl (Aw.skip (blk_m ?_)))))
   obtain rfl := some_some hh
   exact hN6 () _ _ _ hk6 (el [some 0] (rens_sp kr (rs (sw 0 v1) (ro nr_B_108 (ri (ri (ro nr_C_110 (ri (ri rl_n)))))))) (hn nr_eI hs_nil))
 refine yb 24 hb (yb 25 hb ?_)
 obtain ⟨hg456, hh⟩ := grd_some hh
 refine yjc 4 [(0 : Int) ≤ (z2.Frame) ∧ (z2.Frame) < (((List.length v1) : Nat) : Int)] (sp 35 [z8, (7, pp 1), z5, z6, z9, z10, z11, z12, (23, .ptr 1 [] 1), (24, bb true), (25, bb true), (26, sw 0 v1), (27, pp 1), (28, ii (z2.Frame)), (29, .ptr 0 [] (0 + (Int.toNat (z2.Frame)) * 1))]) [z7, (1, some q1)] 2 (.cons hg456 .nil) (yg (.load false 1 (.t 29)) (some 30) 25 true (op_load (c := (eI .i64)) (xs := v1) (e := 3) (r := 0) (π := []) (o := 0 + (Int.toNat (z2.Frame)) * 1) (i := (Int.toNat (z2.Frame))) (off := 0) (v := ii z3) len_eI kr kr ltn ltn dd kr ?_))
 refine yt (sp 35 [z8, z5, z6, z9, z10, z11, z12, (32, bb (decide ((1 : Int) < z3)))]) [z7] 2 ?_
 rcases cond_sf hh with ⟨hb, hh⟩ | ⟨hb, hh⟩
 · refine cF hb (Aw.skip (blk_m ?_))
   obtain rfl := some_some hh
   exact hN6 () _ _ _ hk6 (el [some 0] (rens_sp kr (rs (sw 0 v1) (ro nr_B_108 (ri (ri (ro nr_C_110 (ri (ri rl_n)))))))) (hn nr_eI hs_nil))
 refine cT hb (sy [2] [] (sp 35 [(2, bb false)]) [] 2 (Aw.ret (blk_r ?_)))
 obtain rfl := some_some hh
 refine hR6 _ _ _ ((hR5 _ _ _ _ (some_some hk6) ?_))
 intro hout
 rw [hout] at hk5
 refine blk_r (blk_r ?_)
 obtain rfl := some_some hk5
 refine hR4 _ _ _ ((hR3 _ _ _ _ (some_some hk4) ?_))
 intro hout
 rw [hout] at hk3
 refine blk_r ?_
 obtain rfl := some_some hk3
 refine hR2 _ _ _ ?_
 rw [some_some hk2]
 exact gvb
theorem low_impl_HostOk : LW 12 ⟨24, [(.tmp 2)], (.seq (.reg false (rg 12 0)) (.seq (.reg false (rg 12 1)) (.seq (.reg false (rg 12 2)) .ret)))⟩ := kr
noncomputable def F_impl_HostOk (x_h : DHost) : Option Bool :=
 cond (decide ((((List.length x_h.Words) : Nat) : Int) = (160 : Int)))
  (Option.bind (F_impl_wordsOk x_h.Words) fun v1 =>
  cond v1
   (Option.bind (F_impl_guestsOk x_h.Guests) fun v2 =>
   cond v2
    (Option.bind (F_impl_writersAreAlone x_h.Guests) fun v3 =>
    some v3)
    (some false))
   (some false))
  (some false)
theorem impl_HostOk_fn {x_h : DHost} {R_ : Bool} (hh : F_impl_HostOk x_h = some R_) : Fn Try.prog 12 [.agg (B_26 x_h)] (.bool R_) := by
 let z1 : EH := (0, some (rB26 x_h))
 unfold F_impl_HostOk at hh
 refine Fn.start low_impl_HostOk [0] (E := sp 24 [(0, .agg (B_26 x_h))]) kr (v := bb R_) (Hr := []) (k := 0) kr (sy [1] [0] (sp 24 [(1, pp 0)]) [z1] 1 (Aw.sreg [1, 3] [0] (yu 5 [(4, pp 0), (5, bo (eI .i64) x_h.Words), (6, ii (((List.length x_h.Words) : Nat) : Int)), (7, bb (decide ((((List.length x_h.Words) : Nat) : Int) = (160 : Int)))), (8, bb (decide ((((List.length x_h.Words) : Nat) : Int) = (160 : Int))))] [z1] 1 ?_)))
 rcases cond_sf hh with ⟨hb, hh⟩ | ⟨hb, hh⟩
 · exact yb 7 hb (yb 8 hb (yt (sp 24 [(1, pp 0), (3, bb false)]) [z1] 1 (sy [2] [] (sp 24 [(2, bb false)]) [] 1 (Aw.ret (gvbs hh)))))
 refine yb 7 hb (yb 8 hb (yu 2 [(7, bb true), (8, bb true), (9, pp 0), (10, bo (eI .i64) x_h.Words)] [z1] 1 ?_))
 obtain ⟨v1, hv1, hh⟩ := bind_some hh
 refine yg (.call 40 [(.t 10)]) (some 11) 8 true (oc (impl_wordsOk_fn hv1) ?_)
 refine yt (sp 24 [(1, pp 0), (3, bb v1)]) [z1] 1 (Aw.sreg [2] [] (yu 2 [(13, bb v1), (14, bb v1)] [z1] 1 ?_))
 rcases cond_sf hh with ⟨hb, hh⟩ | ⟨hb, hh⟩
 · exact yb 3 hb (yb 13 hb (yb 14 hb (yt (sp 24 [(2, bb false)]) [] 1 (Aw.ret (gvbs hh)))))
 refine yb 3 hb (yb 13 hb (yb 14 hb (yu 2 [(3, bb true), (13, bb true), (14, bb true), (15, .ptr 0 [] 1), (16, bo B_108 x_h.Guests)] [z1] 1 ?_)))
 obtain ⟨v2, hv2, hh⟩ := bind_some hh
 refine yg (.call 41 [(.t 16)]) (some 17) 14 true (op_call (r := bb v2) (v := bb v2) (Hr := []) (n' := 1) (impl_guestsOk_fn hv2) (clz_v (vs := [bo B_108 x_h.Guests]) kr (clz_c (clo_same (clean_bor (cleans_fl cl_B_108))) clz_n)) rfl rfl kr ?_)
 refine yu 2 [(17, bb v2), (18, bb v2), (19, bb v2)] [z1] 1 ?_
 rcases cond_sf hh with ⟨hb, hh⟩ | ⟨hb, hh⟩
 · exact yb 17 hb (yb 18 hb (yb 19 hb (yt (sp 24 [(2, bb false)]) [] 1 (Aw.ret (gvbs hh)))))
 refine yb 17 hb (yb 18 hb (yb 19 hb (yu 2 [(17, bb true), (18, bb true), (19, bb true), (20, .ptr 0 [] 1), (21, bo B_108 x_h.Guests)] [z1] 1 ?_)))
 obtain ⟨v3, hv3, hh⟩ := bind_some hh
 refine yg (.call 42 [(.t 21)]) (some 22) 19 true (op_call (r := bb v3) (v := bb v3) (Hr := []) (n' := 1) (impl_writersAreAlone_fn hv3) (clz_v (vs := [bo B_108 x_h.Guests]) kr (clz_c (clo_same (clean_bor (cleans_fl cl_B_108))) clz_n)) rfl rfl kr ?_)
 exact yt (sp 24 [(2, bb v3)]) [] 1 (Aw.ret (gvbs hh))
theorem low_spec_l4Zero : LW 71 ⟨88, [(.tmp 2)], (.seq (.reg false (rg 71 0)) (.seq (.reg false (rg 71 1)) (.seq (.reg false (rg 71 2)) .ret)))⟩ := kr
noncomputable def F_spec_l4Zero (x_g : DGuest) : Option Bool :=
 cond (decide ((((List.length x_g.C.Regs) : Nat) : Int) = (0 : Int)))
  (cond (decide (x_g.C.Pc = (0 : Int)))
   (cond (decide (x_g.C.Root = (0 : Int)))
    (cond (decide (x_g.C.Vector = (0 : Int)))
     (cond (decide (x_g.C.Saved = (0 : Int)))
      (cond (!x_g.C.SavedUser)
       (cond (decide (x_g.C.Cause = (0 : Int)))
        (cond (decide (x_g.C.Bad = (0 : Int)))
         (cond (decide (x_g.C.Timer = (0 : Int)))
          (cond (!x_g.C.Waits)
           (cond (!x_g.C.User)
            (cond (!x_g.C.On)
             (cond (!x_g.C.Stopped)
              (cond (decide ((((List.length x_g.Pages) : Nat) : Int) = (0 : Int)))
               (cond (decide ((((List.length x_g.In) : Nat) : Int) = (0 : Int)))
                (some (decide ((((List.length x_g.Out) : Nat) : Int) = (0 : Int))))
                (some false))
               (some false))
              (some false))
             (some false))
            (some false))
           (some false))
          (some false))
         (some false))
        (some false))
       (some false))
      (some false))
     (some false))
    (some false))
   (some false))
  (some false)
theorem spec_l4Zero_fn {x_g : DGuest} {R_ : Bool} (hh : F_spec_l4Zero x_g = some R_) : Fn Try.prog 71 [.agg (B_108 x_g)] (.bool R_) := by
 let z1 : EH := (0, some (rB108 x_g)); let z2 : EH := (1, some (rB100 x_g.C)); let z3 := (2, bb false)
 unfold F_spec_l4Zero at hh
 refine Fn.start low_spec_l4Zero [0] (E := sp 88 [(0, .agg (B_108 x_g))]) kr (v := bb R_) (Hr := []) (k := 0) kr (sy [1] [0] (sp 88 [(1, pp 0)]) [z1] 1 (sy [1, 3] [0, 1] (sp 88 [(1, pp 0), (3, pp 1)]) [z1, z2] 2 (Aw.sreg [2] [] (yu 5 [(6, pp 1), (7, bo (eI .i64) x_g.C.Regs), (8, ii (((List.length x_g.C.Regs) : Nat) : Int)), (9, bb (decide ((((List.length x_g.C.Regs) : Nat) : Int) = (0 : Int)))), (10, bb (decide ((((List.length x_g.C.Regs) : Nat) : Int) = (0 : Int))))] [z1, z2] 2 ?_))))
 rcases cond_sf hh with ⟨hb, hh⟩ | ⟨hb, hh⟩
 · exact yb 9 hb (yb 10 hb (yt (sp 88 [z3]) [] 2 (Aw.ret (gvbs hh))))
 refine yb 9 hb (yb 10 hb (yu 5 [(9, bb true), (10, bb true), (11, .ptr 1 [] 1), (12, ii x_g.C.Pc), (13, bb (decide (x_g.C.Pc = (0 : Int)))), (14, bb (decide (x_g.C.Pc = (0 : Int)))), (15, bb (decide (x_g.C.Pc = (0 : Int))))] [z1, z2] 2 ?_))
 rcases cond_sf hh with ⟨hb, hh⟩ | ⟨hb, hh⟩
 · exact yb 13 hb (yb 14 hb (yb 15 hb (yt (sp 88 [z3]) [] 2 (Aw.ret (gvbs hh)))))
 refine yb 13 hb (yb 14 hb (yb 15 hb (yu 5 [(13, bb true), (14, bb true), (15, bb true), (16, .ptr 1 [] 2), (17, ii x_g.C.Root), (18, bb (decide (x_g.C.Root = (0 : Int)))), (19, bb (decide (x_g.C.Root = (0 : Int)))), (20, bb (decide (x_g.C.Root = (0 : Int))))] [z1, z2] 2 ?_)))
 rcases cond_sf hh with ⟨hb, hh⟩ | ⟨hb, hh⟩
 · exact yb 18 hb (yb 19 hb (yb 20 hb (yt (sp 88 [z3]) [] 2 (Aw.ret (gvbs hh)))))
 refine yb 18 hb (yb 19 hb (yb 20 hb (yu 5 [(18, bb true), (19, bb true), (20, bb true), (21, .ptr 1 [] 3), (22, ii x_g.C.Vector), (23, bb (decide (x_g.C.Vector = (0 : Int)))), (24, bb (decide (x_g.C.Vector = (0 : Int)))), (25, bb (decide (x_g.C.Vector = (0 : Int))))] [z1, z2] 2 ?_)))
 rcases cond_sf hh with ⟨hb, hh⟩ | ⟨hb, hh⟩
 · exact yb 23 hb (yb 24 hb (yb 25 hb (yt (sp 88 [z3]) [] 2 (Aw.ret (gvbs hh)))))
 refine yb 23 hb (yb 24 hb (yb 25 hb (yu 5 [(23, bb true), (24, bb true), (25, bb true), (26, .ptr 1 [] 4), (27, ii x_g.C.Saved), (28, bb (decide (x_g.C.Saved = (0 : Int)))), (29, bb (decide (x_g.C.Saved = (0 : Int)))), (30, bb (decide (x_g.C.Saved = (0 : Int))))] [z1, z2] 2 ?_)))
 rcases cond_sf hh with ⟨hb, hh⟩ | ⟨hb, hh⟩
 · exact yb 28 hb (yb 29 hb (yb 30 hb (yt (sp 88 [z3]) [] 2 (Aw.ret (gvbs hh)))))
 refine yb 28 hb (yb 29 hb (yb 30 hb (yu 5 [(28, bb true), (29, bb true), (30, bb true), (31, .ptr 1 [] 5), (32, bb x_g.C.SavedUser), (33, bb (!x_g.C.SavedUser)), (34, bb (!x_g.C.SavedUser)), (35, bb (!x_g.C.SavedUser))] [z1, z2] 2 ?_)))
 rcases cond_sf hh with ⟨hb, hh⟩ | ⟨hb, hh⟩
 · exact yb 33 hb (yb 34 hb (yb 35 hb (yt (sp 88 [z3]) [] 2 (Aw.ret (gvbs hh)))))
 refine yb 33 hb (yb 34 hb (yb 35 hb (yu 5 [(33, bb true), (34, bb true), (35, bb true), (36, .ptr 1 [] 6), (37, ii x_g.C.Cause), (38, bb (decide (x_g.C.Cause = (0 : Int)))), (39, bb (decide (x_g.C.Cause = (0 : Int)))), (40, bb (decide (x_g.C.Cause = (0 : Int))))] [z1, z2] 2 ?_)))
 rcases cond_sf hh with ⟨hb, hh⟩ | ⟨hb, hh⟩
 · exact yb 38 hb (yb 39 hb (yb 40 hb (yt (sp 88 [z3]) [] 2 (Aw.ret (gvbs hh)))))
 refine yb 38 hb (yb 39 hb (yb 40 hb (yu 5 [(38, bb true), (39, bb true), (40, bb true), (41, .ptr 1 [] 7), (42, ii x_g.C.Bad), (43, bb (decide (x_g.C.Bad = (0 : Int)))), (44, bb (decide (x_g.C.Bad = (0 : Int)))), (45, bb (decide (x_g.C.Bad = (0 : Int))))] [z1, z2] 2 ?_)))
 rcases cond_sf hh with ⟨hb, hh⟩ | ⟨hb, hh⟩
 · exact yb 43 hb (yb 44 hb (yb 45 hb (yt (sp 88 [z3]) [] 2 (Aw.ret (gvbs hh)))))
 refine yb 43 hb (yb 44 hb (yb 45 hb (yu 5 [(43, bb true), (44, bb true), (45, bb true), (46, .ptr 1 [] 8), (47, ii x_g.C.Timer), (48, bb (decide (x_g.C.Timer = (0 : Int)))), (49, bb (decide (x_g.C.Timer = (0 : Int)))), (50, bb (decide (x_g.C.Timer = (0 : Int))))] [z1, z2] 2 ?_)))
 rcases cond_sf hh with ⟨hb, hh⟩ | ⟨hb, hh⟩
 · exact yb 48 hb (yb 49 hb (yb 50 hb (yt (sp 88 [z3]) [] 2 (Aw.ret (gvbs hh)))))
 refine yb 48 hb (yb 49 hb (yb 50 hb (yu 5 [(48, bb true), (49, bb true), (50, bb true), (51, .ptr 1 [] 9), (52, bb x_g.C.Waits), (53, bb (!x_g.C.Waits)), (54, bb (!x_g.C.Waits)), (55, bb (!x_g.C.Waits))] [z1, z2] 2 ?_)))
 rcases cond_sf hh with ⟨hb, hh⟩ | ⟨hb, hh⟩
 · exact yb 53 hb (yb 54 hb (yb 55 hb (yt (sp 88 [z3]) [] 2 (Aw.ret (gvbs hh)))))
 refine yb 53 hb (yb 54 hb (yb 55 hb (yu 5 [(53, bb true), (54, bb true), (55, bb true), (56, .ptr 1 [] 10), (57, bb x_g.C.User), (58, bb (!x_g.C.User)), (59, bb (!x_g.C.User)), (60, bb (!x_g.C.User))] [z1, z2] 2 ?_)))
 rcases cond_sf hh with ⟨hb, hh⟩ | ⟨hb, hh⟩
 · exact yb 58 hb (yb 59 hb (yb 60 hb (yt (sp 88 [z3]) [] 2 (Aw.ret (gvbs hh)))))
 refine yb 58 hb (yb 59 hb (yb 60 hb (yu 5 [(58, bb true), (59, bb true), (60, bb true), (61, .ptr 1 [] 11), (62, bb x_g.C.On), (63, bb (!x_g.C.On)), (64, bb (!x_g.C.On)), (65, bb (!x_g.C.On))] [z1, z2] 2 ?_)))
 rcases cond_sf hh with ⟨hb, hh⟩ | ⟨hb, hh⟩
 · exact yb 63 hb (yb 64 hb (yb 65 hb (yt (sp 88 [z3]) [] 2 (Aw.ret (gvbs hh)))))
 refine yb 63 hb (yb 64 hb (yb 65 hb (yu 5 [(63, bb true), (64, bb true), (65, bb true), (66, .ptr 1 [] 12), (67, bb x_g.C.Stopped), (68, bb (!x_g.C.Stopped)), (69, bb (!x_g.C.Stopped)), (70, bb (!x_g.C.Stopped))] [z1, z2] 2 ?_)))
 rcases cond_sf hh with ⟨hb, hh⟩ | ⟨hb, hh⟩
 · exact yb 68 hb (yb 69 hb (yb 70 hb (yt (sp 88 [z3]) [] 2 (Aw.ret (gvbs hh)))))
 refine yb 68 hb (yb 69 hb (yb 70 hb (yu 6 [(68, bb true), (69, bb true), (70, bb true), (71, .ptr 0 [] 14), (72, bo C_110 x_g.Pages), (73, ii (((List.length x_g.Pages) : Nat) : Int)), (74, bb (decide ((((List.length x_g.Pages) : Nat) : Int) = (0 : Int)))), (75, bb (decide ((((List.length x_g.Pages) : Nat) : Int) = (0 : Int)))), (76, bb (decide ((((List.length x_g.Pages) : Nat) : Int) = (0 : Int))))] [z1, z2] 2 ?_)))
 rcases cond_sf hh with ⟨hb, hh⟩ | ⟨hb, hh⟩
 · exact yb 74 hb (yb 75 hb (yb 76 hb (yt (sp 88 [z3]) [] 2 (Aw.ret (gvbs hh)))))
 refine yb 74 hb (yb 75 hb (yb 76 hb (yu 6 [(74, bb true), (75, bb true), (76, bb true), (77, .ptr 0 [] 15), (78, bo (eI .i64) x_g.In), (79, ii (((List.length x_g.In) : Nat) : Int)), (80, bb (decide ((((List.length x_g.In) : Nat) : Int) = (0 : Int)))), (81, bb (decide ((((List.length x_g.In) : Nat) : Int) = (0 : Int)))), (82, bb (decide ((((List.length x_g.In) : Nat) : Int) = (0 : Int))))] [z1, z2] 2 ?_)))
 rcases cond_sf hh with ⟨hb, hh⟩ | ⟨hb, hh⟩
 · exact yb 80 hb (yb 81 hb (yb 82 hb (yt (sp 88 [z3]) [] 2 (Aw.ret (gvbs hh)))))
 exact yb 80 hb (yb 81 hb (yb 82 hb (yt (sp 88 [(2, bb (decide ((((List.length x_g.Out) : Nat) : Int) = (0 : Int))))]) [] 2 (Aw.ret (gvbs hh)))))
theorem low_spec_HostOk : LW 36 ⟨138, [(.tmp 2)], (.seq (.reg false (rg 36 0)) (.seq (.seq (.reg false (rg 36 1)) (.cond (.t 25) (.seq (.reg false (rg 36 2)) .ret) .skip)) (.seq (.reg false (rg 36 3)) (.seq (.reg false (rg 36 4)) (.seq (.seq (.reg false (rg 36 5)) (.block 0 (.loop (.seq (.seq (.reg false (rg 36 6)) (.cond (.t 32) .skip (.exit 0))) (.seq (.block 1 (.seq (.reg false (rg 36 7)) (.seq (.seq (.reg false (rg 36 8)) (.cond (.t 42) (.seq (.seq (.reg false (rg 36 9)) (.cond (.t 45) (.seq (.reg false (rg 36 10)) .ret) .skip)) (.exit 1)) .skip)) (.seq (.seq (.reg false (rg 36 11)) (.cond (.t 67) (.seq (.reg false (rg 36 12)) .ret) .skip)) (.seq (.reg false (rg 36 13)) (.block 2 (.loop (.seq (.seq (.reg false (rg 36 14)) (.cond (.t 72) .skip (.exit 2))) (.seq (.block 3 (.seq (.reg false (rg 36 15)) (.seq (.seq (.reg false (rg 36 16)) (.cond (.t 96) (.seq (.reg false (rg 36 17)) .ret) .skip)) (.seq (.reg false (rg 36 18)) (.cond (.t 99) (.seq (.regt (rg 36 19) (rg 36 20)) (.regt (rg 36 21) (rg 36 22))) .skip))))) (.reg false (rg 36 23))))))))))) (.reg false (rg 36 25))))))) (.seq (.seq (.reg false (rg 36 27)) (.block 4 (.loop (.seq (.seq (.reg false (rg 36 28)) (.cond (.t 124) .skip (.exit 4))) (.seq (.block 5 (.seq (.reg false (rg 36 29)) (.cond (.t 137) (.seq (.reg false (rg 36 30)) .ret) .skip))) (.reg false (rg 36 31))))))) (.seq (.reg false (rg 36 33)) .ret)))))))⟩ := kr
noncomputable def F_spec_HostOk_j3  (s3 : Unit) : Option Bool :=
 some true
noncomputable def F_spec_HostOk_j5 (s4 : Int) (s5 : Unit) : Option (LO Int (JO Unit Bool)) :=
 some (.next (w64 (s4 + (1 : Int))))
noncomputable def F_spec_HostOk_l4 (s2 : (List Int) × (List Bool)) (s4 : Int) : Option (LO Int (JO Unit Bool)) :=
 cond (decide (s4 < (20 : Int)))
  (Option.bind (grd ((0 : Int) ≤ s4 ∧ s4 < (((List.length s2.1) : Nat) : Int)) (cond (decide ((1 : Int) < (List.getD s2.1 (Int.toNat s4) default)))
   (grd ((0 : Int) ≤ s4 ∧ s4 < (((List.length s2.2) : Nat) : Int)) (cond (List.getD s2.2 (Int.toNat s4) default)
    (some (.out (.ret (.out false))))
    (some (.go ()))))
   (some (.go ())))) fun j5 =>
   JO.run j5 (F_spec_HostOk_j5 s4))
  (some (.ret (.go ())))
noncomputable def F_spec_HostOk_j2  (s2 : (List Int) × (List Bool)) : Option Bool :=
 Option.bind (Option.bind (iter (F_spec_HostOk_l4 s2) (0 : Int)) LO.val) fun j3 =>
  JO.run j3 (F_spec_HostOk_j3)
noncomputable def F_spec_HostOk_j7 (s6 : (List Int) × (List Bool) × Int) (s7 : (List Int) × (List Bool)) : Option (LO ((List Int) × (List Bool) × Int) (JO ((List Int) × (List Bool)) Bool)) :=
 some (.next (s7.1, s7.2, (w64 (s6.2.2 + (1 : Int)))))
noncomputable def F_spec_HostOk_j13 (s12 : (List Int) × (List Bool) × Int) (s13 : (List Bool) × (List Int)) : Option (LO ((List Int) × (List Bool) × Int) (JO ((List Int) × (List Bool)) (LO ((List Int) × (List Bool) × Int) (JO ((List Int) × (List Bool)) Bool)))) :=
 some (.next (s13.2, s13.1, (w64 (s12.2.2 + (1 : Int)))))
noncomputable def F_spec_HostOk_j14 (x_h : DHost) (s6 : (List Int) × (List Bool) × Int) (s12 : (List Int) × (List Bool) × Int) (s14 : Unit) : Option (JO ((List Bool) × (List Int)) (LO ((List Int) × (List Bool) × Int) (JO ((List Int) × (List Bool)) (LO ((List Int) × (List Bool) × Int) (JO ((List Int) × (List Bool)) Bool))))) :=
 cond (decide ((0 : Int) ≤ ((List.getD ((List.getD x_h.Guests (Int.toNat s6.2.2) default).Pages) (Int.toNat s12.2.2) default).Frame)))
  (grd ((0 : Int) ≤ ((List.getD ((List.getD x_h.Guests (Int.toNat s6.2.2) default).Pages) (Int.toNat s12.2.2) default).Frame) ∧ ((List.getD ((List.getD x_h.Guests (Int.toNat s6.2.2) default).Pages) (Int.toNat s12.2.2) default).Frame) < (((List.length s12.1) : Nat) : Int)) (grd ((0 : Int) ≤ ((List.getD ((List.getD x_h.Guests (Int.toNat s6.2.2) default).Pages) (Int.toNat s12.2.2) default).Frame) ∧ ((List.getD ((List.getD x_h.Guests (Int.toNat s6.2.2) default).Pages) (Int.toNat s12.2.2) default).Frame) < (((List.length s12.1) : Nat) : Int)) (grd ((0 : Int) ≤ ((List.getD ((List.getD x_h.Guests (Int.toNat s6.2.2) default).Pages) (Int.toNat s12.2.2) default).Frame) ∧ ((List.getD ((List.getD x_h.Guests (Int.toNat s6.2.2) default).Pages) (Int.toNat s12.2.2) default).Frame) < (((List.length s12.2.1) : Nat) : Int)) (cond (List.getD s12.2.1 (Int.toNat ((List.getD ((List.getD x_h.Guests (Int.toNat s6.2.2) default).Pages) (Int.toNat s12.2.2) default).Frame)) default)
   (grd ((0 : Int) ≤ ((List.getD ((List.getD x_h.Guests (Int.toNat s6.2.2) default).Pages) (Int.toNat s12.2.2) default).Frame) ∧ ((List.getD ((List.getD x_h.Guests (Int.toNat s6.2.2) default).Pages) (Int.toNat s12.2.2) default).Frame) < (((List.length s12.2.1) : Nat) : Int)) (some (.go ((List.set s12.2.1 (Int.toNat ((List.getD ((List.getD x_h.Guests (Int.toNat s6.2.2) default).Pages) (Int.toNat s12.2.2) default).Frame)) true), (List.set s12.1 (Int.toNat ((List.getD ((List.getD x_h.Guests (Int.toNat s6.2.2) default).Pages) (Int.toNat s12.2.2) default).Frame)) (w64 ((List.getD s12.1 (Int.toNat ((List.getD ((List.getD x_h.Guests (Int.toNat s6.2.2) default).Pages) (Int.toNat s12.2.2) default).Frame)) default) + (1 : Int))))))))
   (grd ((0 : Int) ≤ ((List.getD ((List.getD x_h.Guests (Int.toNat s6.2.2) default).Pages) (Int.toNat s12.2.2) default).Frame) ∧ ((List.getD ((List.getD x_h.Guests (Int.toNat s6.2.2) default).Pages) (Int.toNat s12.2.2) default).Frame) < (((List.length s12.2.1) : Nat) : Int)) (some (.go ((List.set s12.2.1 (Int.toNat ((List.getD ((List.getD x_h.Guests (Int.toNat s6.2.2) default).Pages) (Int.toNat s12.2.2) default).Frame)) ((List.getD ((List.getD x_h.Guests (Int.toNat s6.2.2) default).Pages) (Int.toNat s12.2.2) default).Write)), (List.set s12.1 (Int.toNat ((List.getD ((List.getD x_h.Guests (Int.toNat s6.2.2) default).Pages) (Int.toNat s12.2.2) default).Frame)) (w64 ((List.getD s12.1 (Int.toNat ((List.getD ((List.getD x_h.Guests (Int.toNat s6.2.2) default).Pages) (Int.toNat s12.2.2) default).Frame)) default) + (1 : Int))))))))))))
  (some (.go (s12.2.1, s12.1)))
noncomputable def F_spec_HostOk_l12 (x_h : DHost) (s6 : (List Int) × (List Bool) × Int) (s12 : (List Int) × (List Bool) × Int) : Option (LO ((List Int) × (List Bool) × Int) (JO ((List Int) × (List Bool)) (LO ((List Int) × (List Bool) × Int) (JO ((List Int) × (List Bool)) Bool)))) :=
 cond (decide (s12.2.2 < (((List.length ((List.getD x_h.Guests (Int.toNat s6.2.2) default).Pages)) : Nat) : Int)))
  (Option.bind (grd ((0 : Int) ≤ s12.2.2 ∧ s12.2.2 < ((List.length ((List.getD x_h.Guests (Int.toNat s6.2.2) default).Pages) : Nat) : Int)) (Option.bind (Option.bind (F_spec_l1In ((List.getD ((List.getD x_h.Guests (Int.toNat s6.2.2) default).Pages) (Int.toNat s12.2.2) default).Frame) (-1 : Int) (19 : Int)) fun v15 =>
   cond (!v15)
    (some (.out (.out (.ret (.out (.ret (.out false)))))))
    (cond (decide (((List.getD ((List.getD x_h.Guests (Int.toNat s6.2.2) default).Pages) (Int.toNat s12.2.2) default).Frame) = (-1 : Int)))
     (cond ((List.getD ((List.getD x_h.Guests (Int.toNat s6.2.2) default).Pages) (Int.toNat s12.2.2) default).Write)
      (some (.out (.out (.ret (.out (.ret (.out false)))))))
      (cond ((List.getD ((List.getD x_h.Guests (Int.toNat s6.2.2) default).Pages) (Int.toNat s12.2.2) default).Dirty)
       (some (.out (.out (.ret (.out (.ret (.out false)))))))
       (some (.go ()))))
     (some (.go ())))) fun j14 =>
   JO.run j14 (F_spec_HostOk_j14 x_h s6 s12))) fun j13 =>
   JO.run j13 (F_spec_HostOk_j13 s12))
  (some (.ret (.go (s12.1, s12.2.1))))
noncomputable def F_spec_HostOk_l6 (x_h : DHost) (s6 : (List Int) × (List Bool) × Int) : Option (LO ((List Int) × (List Bool) × Int) (JO ((List Int) × (List Bool)) Bool)) :=
 cond (decide (s6.2.2 < (((List.length x_h.Guests) : Nat) : Int)))
  (Option.bind (grd ((0 : Int) ≤ s6.2.2 ∧ s6.2.2 < ((List.length x_h.Guests : Nat) : Int)) (cond (!((List.getD x_h.Guests (Int.toNat s6.2.2) default).Live))
   (Option.bind (F_spec_l4Zero (DGuest.mk ((List.getD x_h.Guests (Int.toNat s6.2.2) default).Live) (DCore.mk (((List.getD x_h.Guests (Int.toNat s6.2.2) default).C).Regs) (((List.getD x_h.Guests (Int.toNat s6.2.2) default).C).Pc) (((List.getD x_h.Guests (Int.toNat s6.2.2) default).C).Root) (((List.getD x_h.Guests (Int.toNat s6.2.2) default).C).Vector) (((List.getD x_h.Guests (Int.toNat s6.2.2) default).C).Saved) (((List.getD x_h.Guests (Int.toNat s6.2.2) default).C).SavedUser) (((List.getD x_h.Guests (Int.toNat s6.2.2) default).C).Cause) (((List.getD x_h.Guests (Int.toNat s6.2.2) default).C).Bad) (((List.getD x_h.Guests (Int.toNat s6.2.2) default).C).Timer) (((List.getD x_h.Guests (Int.toNat s6.2.2) default).C).Waits) (((List.getD x_h.Guests (Int.toNat s6.2.2) default).C).User) (((List.getD x_h.Guests (Int.toNat s6.2.2) default).C).On) (((List.getD x_h.Guests (Int.toNat s6.2.2) default).C).Stopped)) ((List.getD x_h.Guests (Int.toNat s6.2.2) default).Pages) ((List.getD x_h.Guests (Int.toNat s6.2.2) default).In) ((List.getD x_h.Guests (Int.toNat s6.2.2) default).Out))) fun v8 =>
   cond (!v8)
    (some (.out (.ret (.out false))))
    (some (.go (s6.1, s6.2.1))))
   (Option.bind (F_spec_CoreOk (DCore.mk (((List.getD x_h.Guests (Int.toNat s6.2.2) default).C).Regs) (((List.getD x_h.Guests (Int.toNat s6.2.2) default).C).Pc) (((List.getD x_h.Guests (Int.toNat s6.2.2) default).C).Root) (((List.getD x_h.Guests (Int.toNat s6.2.2) default).C).Vector) (((List.getD x_h.Guests (Int.toNat s6.2.2) default).C).Saved) (((List.getD x_h.Guests (Int.toNat s6.2.2) default).C).SavedUser) (((List.getD x_h.Guests (Int.toNat s6.2.2) default).C).Cause) (((List.getD x_h.Guests (Int.toNat s6.2.2) default).C).Bad) (((List.getD x_h.Guests (Int.toNat s6.2.2) default).C).Timer) (((List.getD x_h.Guests (Int.toNat s6.2.2) default).C).Waits) (((List.getD x_h.Guests (Int.toNat s6.2.2) default).C).User) (((List.getD x_h.Guests (Int.toNat s6.2.2) default).C).On) (((List.getD x_h.Guests (Int.toNat s6.2.2) default).C).Stopped))) fun v9 =>
   cond (!v9)
    (some (.out (.ret (.out false))))
    (cond (!decide ((((List.length ((List.getD x_h.Guests (Int.toNat s6.2.2) default).Pages)) : Nat) : Int) = (8 : Int)))
     (some (.out (.ret (.out false))))
     (Option.bind (F_spec_l3Words ((List.getD x_h.Guests (Int.toNat s6.2.2) default).In) (30 : Int)) fun v10 =>
     cond (!v10)
      (some (.out (.ret (.out false))))
      (Option.bind (F_spec_l3Words ((List.getD x_h.Guests (Int.toNat s6.2.2) default).Out) (30 : Int)) fun v11 =>
      cond (!v11)
       (some (.out (.ret (.out false))))
       (Option.bind (iter (F_spec_HostOk_l12 x_h s6) (s6.1, s6.2.1, (0 : Int))) LO.val))))))) fun j7 =>
   JO.run j7 (F_spec_HostOk_j7 s6))
  (some (.ret (.go (s6.1, s6.2.1))))
noncomputable def F_spec_HostOk (x_h : DHost) : Option Bool :=
 Option.bind (F_spec_l3Words x_h.Words (160 : Int)) fun v1 =>
 cond (!v1)
  (some false)
  (cond (!decide ((((List.length x_h.Words) : Nat) : Int) = (160 : Int)))
   (some false)
   (cond (!decide ((((List.length x_h.Guests) : Nat) : Int) = (3 : Int)))
    (some false)
    (Option.bind (Option.bind (iter (F_spec_HostOk_l6 x_h) ((List.replicate (Int.toNat (20 : Int)) (0 : Int)), (List.replicate (Int.toNat (20 : Int)) false), (0 : Int))) LO.val) fun j2 =>
     JO.run j2 (F_spec_HostOk_j2))))
theorem spec_HostOk_fn {x_h : DHost} {R_ : Bool} (hh : F_spec_HostOk x_h = some R_) : Fn Try.prog 36 [.agg (B_26 x_h)] (.bool R_) := by
 let z10 : EH := (0, some (rB26 x_h)); let z11 := (1, pp 0); let z12 := (111, pp 4); let z13 := (114, pp 4); let z14 := (2, bb false); let z15 : EV := (3, .sref 1 [] 0 (List.length (List.replicate (Int.toNat (20 : Int)) (0 : Int))) 1); let z16 : EV := (4, .sref 2 [] 0 (List.length (List.replicate (Int.toNat (20 : Int)) false)) 1); let z17 := (6, pp 3); let z18 := (8, pp 4)
 unfold F_spec_HostOk at hh
 refine Fn.start low_spec_HostOk [0] (E := sp 138 [(0, .agg (B_26 x_h))]) kr (v := bb R_) (Hr := []) (k := 0) kr (sy [1] [0] (sp 138 [z11]) [z10] 1 (Aw.seq (Aw.sreg [1, 25] [0] (yj 2  (sp 138 [z11, (10, pp 0), (11, bo (eI .i64) x_h.Words)]) [z10] 1 ?_))))
 obtain ⟨v1, hv1, hh⟩ := bind_some hh
 refine ys (.call 70 [(.t 11), (.c (ii 160))]) (some 12) (oc (spec_l3Words_fn hv1) ?_)
 refine yu 2 [(12, bb v1), (13, bb (!v1)), (14, bb (!v1))] [z10] 1 ?_
 rcases cond_some hh with ⟨hb, hh⟩ | ⟨hb, hh⟩
 · exact yb 13 hb (yb 14 hb (yt (sp 138 [z11, (25, bb true)]) [z10] 1 (cT rfl (sy [2] [] (sp 138 [z14]) [] 1 (Aw.ret (then_r (gvbs hh)))))))
 refine yb 13 hb (yb 14 hb (yu 6 [(13, bb false), (14, bb false), (15, pp 0), (16, bo (eI .i64) x_h.Words), (17, ii (((List.length x_h.Words) : Nat) : Int)), (18, bb (!decide ((((List.length x_h.Words) : Nat) : Int) = (160 : Int)))), (19, bb (!decide ((((List.length x_h.Words) : Nat) : Int) = (160 : Int)))), (20, bb (!decide ((((List.length x_h.Words) : Nat) : Int) = (160 : Int))))] [z10] 1 ?_))
 rcases cond_some hh with ⟨hb, hh⟩ | ⟨hb, hh⟩
 · exact yb 18 hb (yb 19 hb (yb 20 hb (yt (sp 138 [z11, (25, bb true)]) [z10] 1 (cT rfl (sy [2] [] (sp 138 [z14]) [] 1 (Aw.ret (then_r (gvbs hh))))))))
 refine yb 18 hb (yb 19 hb (yb 20 hb (yt (sp 138 [z11, (25, bb (!decide ((((List.length x_h.Guests) : Nat) : Int) = (3 : Int))))]) [z10] 1 ?_)))
 rcases cond_some hh with ⟨hb, hh⟩ | ⟨hb, hh⟩
 · exact cT hb (sy [2] [] (sp 138 [z14]) [] 1 (Aw.ret (then_r (gvbs hh))))
 refine cF hb (Aw.xskip (fun _ _ _ hq => then_m hq) (Aw.sreg [1, 3] [0, 1] (ys (.mk 3 1 8 [(ii 0)] (.c (ii 20))) (some 26) (op_mk (c := (eI .i64)) (d := (0 : Int)) (k := (20 : Int)) kr dd kr ?_))))
 let q1 : Root := (rI_3 (List.replicate (Int.toNat (20 : Int)) (0 : Int)))
 refine yt (sp 138 [z11, z15]) [z10, (1, some q1)] 2 (Aw.sreg [1, 3, 4] [0, 1, 2] (ys (.mk 4 1 1 [(bb false)] (.c (ii 20))) (some 27) (op_mk (c := eB) (d := false) (k := (20 : Int)) kr dd kr ?_)))
 let q2 : Root := (rT_4 (List.replicate (Int.toNat (20 : Int)) false))
 refine yt (sp 138 [z11, z15, z16]) [z10, (1, some q1), (2, some q2)] 3 ?_
 obtain ⟨j2, hh, hk2⟩ := bind_some hh
 refine Aw.join (S := (List Int) × (List Bool)) (fun s2 => sp 138 [(3, sw 0 s2.1), (4, sw 1 s2.2)]) (fun s2 => [(0, some (rI_3 s2.1)), (1, some (rT_4 s2.2))]) 2 (fun s2 => F_spec_HostOk_j2 s2 = some R_) ?_ ?_
 · intro s2 hh
   let z19 : EH := (0, some (rI_3 s2.1)); let z20 : EH := (1, some (rT_4 s2.2)); let z21 := (3, sw 0 s2.1); let z22 := (4, sw 1 s2.2)
   unfold F_spec_HostOk_j2 at hh
   obtain ⟨j3, hh, hk3⟩ := bind_some hh
   refine Aw.join (S := Unit) (fun s3 => sp 138 []) (fun s3 => []) 0 (fun s3 => F_spec_HostOk_j3 s3 = some R_) ?_ ?_
   · intro s3 hh
     unfold F_spec_HostOk_j3 at hh
     exact sy [2] [] (sp 138 [(2, bb true)]) [] 0 (Aw.ret (gvbs hh))
   intro Q3 hN3 hR3 hE3
   refine sy [3, 4, 9] [0, 1] (sp 138 [z21, z22, (9, ii 0)]) [z19, z20] 2 (Aw.block ?_)
   obtain ⟨o4, hi4, hk4⟩ := bind_some hh
   refine Aw.iter (fun (s4 : Int) => sp 138 [(3, sw 0 s2.1), (4, sw 1 s2.2), (9, ii s4)]) (fun (s4 : Int) => [(0, some (rI_3 s2.1)), (1, some (rT_4 s2.2))]) 2 hi4 (el [some 0, some 1] (rens_sp kr (rs (sw 0 s2.1) (rs (sw 1 s2.2) (ri rl_n)))) (hn nr_eI (hn nr_eB hs_nil))) ?_
   intro s4 u4 Q4 hh hN4 hX4 hR4
   let z23 := (124, bb (decide (s4 < (20 : Int)))); let z24 : EV := (129, .ptr 0 [] (0 + (Int.toNat s4) * 1)); let z1 := List.getD s2.1 (Int.toNat s4) default; let z2 := List.getD s2.2 (Int.toNat s4) default
   unfold F_spec_HostOk_l4 at hh
   refine Aw.seq (sy [3, 4, 9, 124] [0, 1] (sp 138 [z21, z22, (9, ii s4), z23]) [z19, z20] 2 ?_)
   rcases cond_some hh with ⟨hb, hh⟩ | ⟨hb, hh⟩
   · refine cT hb (Aw.xskip (fun _ _ _ hq => then_m hq) ?_)
     obtain ⟨j5, hh, hk5⟩ := bind_some hh
     refine Aw.join (S := Unit) (fun s5 => sp 138 [(3, sw 0 s2.1), (4, sw 1 s2.2), (9, ii s4)]) (fun s5 => [(0, some (rI_3 s2.1)), (1, some (rT_4 s2.2))]) 2 (fun s5 => F_spec_HostOk_j5 s4 s5 = some u4) ?_ ?_
     · intro s5 hh
       unfold F_spec_HostOk_j5 at hh
       exact Aw.oreg (ye (sp 138 [z21, z22, (9, ii (w64 (s4 + (1 : Int)))), (125, ii s4), (126, ii (w64 (s4 + (1 : Int))))]) [z19, z20] 2 (hN4 (w64 (s4 + (1 : Int))) _ _ _ (some_some hh) (el [some 0, some 1] (rens_sp kr (rs (sw 0 s2.1) (rs (sw 1 s2.2) (ri rl_n)))) (hn nr_eI (hn nr_eB hs_nil)))))
     intro Q5 hN5 hR5 hE5
     refine Aw.block (Aw.sreg [3, 4, 9, 137] [0, 1] ?_)
     obtain ⟨hg732, hh⟩ := grd_some hh
     refine yjc 3 [(0 : Int) ≤ s4 ∧ s4 < (((List.length s2.1) : Nat) : Int)] (sp 138 [z21, z22, (9, ii s4), z23, (127, sw 0 s2.1), (128, ii s4), z24]) [z19, z20] 2 (.cons hg732 .nil) (ys (.load false 1 (.t 129)) (some 130) (op_load (c := (eI .i64)) (xs := s2.1) (e := 3) (r := 0) (π := []) (o := 0 + (Int.toNat s4) * 1) (i := (Int.toNat s4)) (off := 0) (v := ii z1) len_eI kr kr ltn ltn dd kr ?_))
     refine yu 2 [(130, ii z1), (131, bb (decide ((1 : Int) < z1))), (132, bb (decide ((1 : Int) < z1)))] [z19, z20] 2 ?_
     rcases cond_sf hh with ⟨hb, hh⟩ | ⟨hb, hh⟩
     · refine yb 131 hb (yb 132 hb (yt (sp 138 [z21, z22, (9, ii s4), (137, bb false)]) [z19, z20] 2 (cF rfl (Aw.skip (blk_m ?_)))))
       obtain rfl := some_some hh
       exact hN5 () _ _ _ hk5 (el [some 0, some 1] (rens_sp kr (rs (sw 0 s2.1) (rs (sw 1 s2.2) (ri rl_n)))) (hn nr_eI (hn nr_eB hs_nil)))
     refine yb 131 hb (yb 132 hb ?_)
     obtain ⟨hg731, hh⟩ := grd_some hh
     refine yjc 3 [(0 : Int) ≤ s4 ∧ s4 < (((List.length s2.2) : Nat) : Int)] (sp 138 [z21, z22, (9, ii s4), z23, (127, sw 0 s2.1), (128, ii s4), z24, (130, ii z1), (131, bb true), (132, bb true), (133, sw 1 s2.2), (134, ii s4), (135, .ptr 1 [] (0 + (Int.toNat s4) * 1))]) [z19, z20] 2 (.cons hg731 .nil) (yg (.load false 1 (.t 135)) (some 136) 132 true (op_load (c := eB) (xs := s2.2) (e := 4) (r := 1) (π := []) (o := 0 + (Int.toNat s4) * 1) (i := (Int.toNat s4)) (off := 0) (v := bb z2) len_eB kr kr ltn ltn dd kr ?_))
     refine yt (sp 138 [z21, z22, (9, ii s4), (137, bb z2)]) [z19, z20] 2 ?_
     rcases cond_sf hh with ⟨hb, hh⟩ | ⟨hb, hh⟩
     · refine cF hb (Aw.skip (blk_m ?_))
       obtain rfl := some_some hh
       exact hN5 () _ _ _ hk5 (el [some 0, some 1] (rens_sp kr (rs (sw 0 s2.1) (rs (sw 1 s2.2) (ri rl_n)))) (hn nr_eI (hn nr_eB hs_nil)))
     refine cT hb (sy [2] [] (sp 138 [z14]) [] 2 (Aw.ret (blk_r ?_)))
     obtain rfl := some_some hh
     refine hR5 _ _ _ ((hR4 _ _ _ _ (some_some hk5) ?_))
     intro hout
     rw [hout] at hk4
     refine blk_r ?_
     obtain rfl := some_some hk4
     refine hR3 _ _ _ ?_
     rw [some_some hk3]
     exact gvb
   refine cF hb (Aw.exit (then_x (hX4 _ _ _ _ _ (some_some hh) ?_)))
   intro hout
   rw [hout] at hk4
   refine blk_x ?_
   obtain rfl := some_some hk4
   exact hN3 () _ _ _ hk3 (el [] (rens_sp kr rl_n) hs_nil)
 intro Q2 hN2 hR2 hE2
 refine sy [1, 3, 4, 5] [0, 1, 2] (sp 138 [z11, z15, z16, (5, ii 0)]) [z10, (1, some q1), (2, some q2)] 3 (Aw.block ?_)
 obtain ⟨o6, hi6, hk6⟩ := bind_some hh
 refine Aw.iter (fun (s6 : (List Int) × (List Bool) × Int) => sp 138 [(1, pp 0), (3, sw 1 s6.1), (4, sw 2 s6.2.1), (5, ii s6.2.2)]) (fun (s6 : (List Int) × (List Bool) × Int) => [(0, some (rB26 x_h)), (1, some (rI_3 s6.1)), (2, some (rT_4 s6.2.1))]) 3 hi6 (el [some 0, some 1, some 2] (rens_sp kr (rp 0 (rs (.sref 1 [] 0 (List.length (List.replicate (Int.toNat (20 : Int)) (0 : Int))) 1) (rs (.sref 2 [] 0 (List.length (List.replicate (Int.toNat (20 : Int)) false)) 1) (ri rl_n))))) (hq (rB26 x_h) (rens_same (nr_B_26 _)) (hn nr_eI (hn nr_eB hs_nil)))) ?_
 intro s6 u6 Q6 hh hN6 hX6 hR6
 let z25 : EH := (1, some (rI_3 s6.1)); let z26 : EH := (2, some (rT_4 s6.2.1)); let z27 := (3, sw 1 s6.1); let z28 := (32, bb (decide (s6.2.2 < (((List.length x_h.Guests) : Nat) : Int)))); let z29 := (4, sw 2 s6.2.1); let z30 := (5, ii s6.2.2); let z3 := List.getD x_h.Guests (Int.toNat s6.2.2) default; let z31 := (42, bb (!(z3.Live)))
 unfold F_spec_HostOk_l6 at hh
 refine Aw.seq (sy [1, 3, 4, 5, 32] [0, 1, 2] (sp 138 [z11, z27, z29, z30, z28]) [z10, z25, z26] 3 ?_)
 rcases cond_sf hh with ⟨hb, hh⟩ | ⟨hb, hh⟩
 · refine cF hb (Aw.exit (then_x (hX6 _ _ _ _ _ (some_some hh) ?_)))
   intro hout
   rw [hout] at hk6
   refine blk_x ?_
   obtain rfl := some_some hk6
   exact hN2 (s6.1, s6.2.1) _ _ _ hk2 (el [some 1, some 2] (rens_sp kr (rs (sw 1 s6.1) (rs (sw 2 s6.2.1) rl_n))) (hn nr_eI (hn nr_eB hs_nil)))
 refine cT hb (Aw.xskip (fun _ _ _ hq => then_m hq) ?_)
 obtain ⟨j7, hh, hk7⟩ := bind_some hh
 refine Aw.join (S := (List Int) × (List Bool)) (fun s7 => sp 138 [(1, pp 0), (3, sw 1 s7.1), (4, sw 2 s7.2), (5, ii s6.2.2)]) (fun s7 => [(0, some (rB26 x_h)), (1, some (rI_3 s7.1)), (2, some (rT_4 s7.2))]) 3 (fun s7 => F_spec_HostOk_j7 s6 s7 = some u6) ?_ ?_
 · intro s7 hh
   unfold F_spec_HostOk_j7 at hh
   exact Aw.oreg (ye (sp 138 [z11, (3, sw 1 s7.1), (4, sw 2 s7.2), (5, ii (w64 (s6.2.2 + (1 : Int)))), (33, ii s6.2.2), (34, ii (w64 (s6.2.2 + (1 : Int))))]) [z10, (1, some (rI_3 s7.1)), (2, some (rT_4 s7.2))] 3 (hN6 (s7.1, s7.2, (w64 (s6.2.2 + (1 : Int)))) _ _ _ (some_some hh) (el [some 0, some 1, some 2] (rens_sp kr (rp 0 (rs (sw 1 s7.1) (rs (sw 2 s7.2) (ri rl_n))))) (hq (rB26 x_h) (rens_same (nr_B_26 _)) (hn nr_eI (hn nr_eB hs_nil))))))
 intro Q7 hN7 hR7 hE7
 refine Aw.block (Aw.sreg [1, 3, 4, 5, 6] [0, 1, 2, 3] (yj 3  (sp 138 [z11, z27, z29, z30, z28, (35, .ptr 0 [] 1), (36, bo B_108 x_h.Guests), (37, ii s6.2.2)]) [z10, z25, z26] 3 ?_))
 obtain ⟨hg1284, hh⟩ := grd_some hh
 refine ys (.iadr 17 (.t 36) (.t 37)) (some 38) (op_iadr (kd := .i64) (c := B_108) (xs := x_h.Guests) len_B_108 dd kr kr hg1284 ?_)
 refine ys (.load true 17 (.t 38)) (some 39) (op_loadbA (c := B_108) (xs := x_h.Guests) (o := Int.toNat s6.2.2 * 17) (i := (Int.toNat s6.2.2)) (off := 0) (v := .agg (B_108 z3)) len_B_108 kr ltn ltn dd kr ?_)
 let q3 : Root := (rB108 z3); let z32 := (3, some q3)
 refine yt (sp 138 [z11, z27, z29, z30, z17]) [z10, z25, z26, z32] 4 (Aw.seq (sy [1, 3, 4, 5, 6, 42] [0, 1, 2, 3] (sp 138 [z11, z27, z29, z30, z17, z31]) [z10, z25, z26, z32] 4 ?_))
 rcases cond_some hh with ⟨hb, hh⟩ | ⟨hb, hh⟩
 · refine cT hb (Aw.seq (Aw.sreg [1, 3, 4, 5, 45] [0, 1, 2] (yj 1  (sp 138 [z11, z27, z29, z30, z17, z31, (43, .agg (B_108 z3))]) [z10, z25, z26, z32] 4 ?_)))
   obtain ⟨v8, hv8, hh⟩ := bind_some hh
   refine ys (.call 71 [(.t 43)]) (some 44) (op_call (r := bb v8) (v := bb v8) (Hr := []) (n' := 4) (spec_l4Zero_fn hv8) (clz_v (vs := [.agg (B_108 z3)]) kr (clz_c (clo_agg cz) clz_n)) rfl rfl kr ?_)
   refine yt (sp 138 [z11, z27, z29, z30, (45, bb (!v8))]) [z10, z25, z26] 4 ?_
   rcases cond_sf hh with ⟨hb, hh⟩ | ⟨hb, hh⟩
   · refine cF hb (Aw.xskip (fun _ _ _ hq => then_m hq) (Aw.exit (then_x (blk_x ?_))))
     obtain rfl := some_some hh
     exact hN7 (s6.1, s6.2.1) _ _ _ hk7 (el [some 0, some 1, some 2] (rens_sp kr (rp 0 (rs (sw 1 s6.1) (rs (sw 2 s6.2.1) (ri rl_n))))) (hq (rB26 x_h) (rens_same (nr_B_26 _)) (hn nr_eI (hn nr_eB hs_nil))))
   refine cT hb (sy [2] [] (sp 138 [z14]) [] 4 (Aw.ret (then_r (then_r (blk_r ?_)))))
   obtain rfl := some_some hh
   refine hR7 _ _ _ ((hR6 _ _ _ _ (some_some hk7) ?_))
   intro hout
   rw [hout] at hk6
   refine blk_r ?_
   obtain rfl := some_some hk6
   refine hR2 _ _ _ ?_
   rw [some_some hk2]
   exact gvb
 refine cF hb (Aw.xskip (fun _ _ _ hq => then_m hq) (Aw.seq (Aw.sreg [1, 3, 4, 5, 6, 67] [0, 1, 2, 3] (yj 2  (sp 138 [z11, z27, z29, z30, z17, z31, (46, .ptr 3 [] 1), (47, .agg (B_100 z3.C))]) [z10, z25, z26, z32] 4 ?_))))
 obtain ⟨v9, hv9, hh⟩ := bind_some hh
 refine ys (.call 72 [(.t 47)]) (some 48) (op_call (r := bb v9) (v := bb v9) (Hr := []) (n' := 4) (spec_CoreOk_fn hv9) (clz_v (vs := [.agg (B_100 z3.C)]) kr (clz_c (clo_agg cz) clz_n)) rfl rfl kr ?_)
 refine yu 2 [(48, bb v9), (49, bb (!v9)), (50, bb (!v9))] [z10, z25, z26, z32] 4 ?_
 rcases cond_some hh with ⟨hb, hh⟩ | ⟨hb, hh⟩
 · refine yb 49 hb (yb 50 hb (yt (sp 138 [z11, z27, z29, z30, z17, (67, bb true)]) [z10, z25, z26, z32] 4 (cT rfl (sy [2] [] (sp 138 [z14]) [] 4 (Aw.ret (then_r (blk_r ?_)))))))
   obtain rfl := some_some hh
   refine hR7 _ _ _ ((hR6 _ _ _ _ (some_some hk7) ?_))
   intro hout
   rw [hout] at hk6
   refine blk_r ?_
   obtain rfl := some_some hk6
   refine hR2 _ _ _ ?_
   rw [some_some hk2]
   exact gvb
 refine yb 49 hb (yb 50 hb (yu 6 [(49, bb false), (50, bb false), (51, .ptr 3 [] 14), (52, bo C_110 (z3.Pages)), (53, ii (((List.length (z3.Pages)) : Nat) : Int)), (54, bb (!decide ((((List.length (z3.Pages)) : Nat) : Int) = (8 : Int)))), (55, bb (!decide ((((List.length (z3.Pages)) : Nat) : Int) = (8 : Int)))), (56, bb (!decide ((((List.length (z3.Pages)) : Nat) : Int) = (8 : Int))))] [z10, z25, z26, z32] 4 ?_))
 rcases cond_some hh with ⟨hb, hh⟩ | ⟨hb, hh⟩
 · refine yb 54 hb (yb 55 hb (yb 56 hb (yt (sp 138 [z11, z27, z29, z30, z17, (67, bb true)]) [z10, z25, z26, z32] 4 (cT rfl (sy [2] [] (sp 138 [z14]) [] 4 (Aw.ret (then_r (blk_r ?_))))))))
   obtain rfl := some_some hh
   refine hR7 _ _ _ ((hR6 _ _ _ _ (some_some hk7) ?_))
   intro hout
   rw [hout] at hk6
   refine blk_r ?_
   obtain rfl := some_some hk6
   refine hR2 _ _ _ ?_
   rw [some_some hk2]
   exact gvb
 refine yb 54 hb (yb 55 hb (yb 56 hb (yu 2 [(54, bb false), (55, bb false), (56, bb false), (57, .ptr 3 [] 15), (58, bo (eI .i64) (z3.In))] [z10, z25, z26, z32] 4 ?_)))
 obtain ⟨v10, hv10, hh⟩ := bind_some hh
 refine yg (.call 70 [(.t 58), (.c (ii 30))]) (some 59) 56 false (oc (spec_l3Words_fn hv10) ?_)
 refine yu 3 [(59, bb v10), (60, bb (!v10)), (61, bb (!v10)), (62, bb (!v10))] [z10, z25, z26, z32] 4 ?_
 rcases cond_some hh with ⟨hb, hh⟩ | ⟨hb, hh⟩
 · refine yb 60 hb (yb 61 hb (yb 62 hb (yt (sp 138 [z11, z27, z29, z30, z17, (67, bb true)]) [z10, z25, z26, z32] 4 (cT rfl (sy [2] [] (sp 138 [z14]) [] 4 (Aw.ret (then_r (blk_r ?_))))))))
   obtain rfl := some_some hh
   refine hR7 _ _ _ ((hR6 _ _ _ _ (some_some hk7) ?_))
   intro hout
   rw [hout] at hk6
   refine blk_r ?_
   obtain rfl := some_some hk6
   refine hR2 _ _ _ ?_
   rw [some_some hk2]
   exact gvb
 refine yb 60 hb (yb 61 hb (yb 62 hb (yu 2 [(60, bb false), (61, bb false), (62, bb false), (63, .ptr 3 [] 16), (64, bo (eI .i64) (z3.Out))] [z10, z25, z26, z32] 4 ?_)))
 obtain ⟨v11, hv11, hh⟩ := bind_some hh
 refine yg (.call 70 [(.t 64), (.c (ii 30))]) (some 65) 62 false (oc (spec_l3Words_fn hv11) ?_)
 refine yt (sp 138 [z11, z27, z29, z30, z17, (67, bb (!v11))]) [z10, z25, z26, z32] 4 ?_
 rcases cond_some hh with ⟨hb, hh⟩ | ⟨hb, hh⟩
 · refine cT hb (sy [2] [] (sp 138 [z14]) [] 4 (Aw.ret (then_r (blk_r ?_))))
   obtain rfl := some_some hh
   refine hR7 _ _ _ ((hR6 _ _ _ _ (some_some hk7) ?_))
   intro hout
   rw [hout] at hk6
   refine blk_r ?_
   obtain rfl := some_some hk6
   refine hR2 _ _ _ ?_
   rw [some_some hk2]
   exact gvb
 refine cF hb (Aw.xskip (fun _ _ _ hq => then_m hq) (sy [1, 3, 4, 5, 6, 7] [0, 1, 2, 3] (sp 138 [z11, z27, z29, z30, z17, (7, ii 0)]) [z10, z25, z26, z32] 4 (Aw.block ?_)))
 obtain ⟨o12, hi12, hk12⟩ := bind_some hh
 refine Aw.iter (fun (s12 : (List Int) × (List Bool) × Int) => sp 138 [(1, pp 0), (3, sw 1 s12.1), (4, sw 2 s12.2.1), (5, ii s6.2.2), (6, pp 3), (7, ii s12.2.2)]) (fun (s12 : (List Int) × (List Bool) × Int) => [(0, some (rB26 x_h)), (1, some (rI_3 s12.1)), (2, some (rT_4 s12.2.1)), (3, some (rB108 (List.getD x_h.Guests (Int.toNat s6.2.2) default)))]) 4 hi12 (el [some 0, some 1, some 2, some 3] (rens_sp kr (rp 0 (rs (sw 1 s6.1) (rs (sw 2 s6.2.1) (ri (rp 3 (ri rl_n))))))) (hq (rB26 x_h) (rens_same (nr_B_26 _)) (hn nr_eI (hn nr_eB (hq q3 rz hs_nil))))) ?_
 intro s12 u12 Q12 hh hN12 hX12 hR12
 let z33 := (110, sw 2 s12.2.1); let z34 := (113, sw 2 s12.2.1); let z35 : EH := (2, some (rT_4 s12.2.1)); let z36 := (3, sw 1 s12.1); let z37 := (4, sw 2 s12.2.1); let z38 := (7, ii s12.2.2); let z39 := (72, bb (decide (s12.2.2 < (((List.length (z3.Pages)) : Nat) : Int)))); let z4 := List.getD (z3.Pages) (Int.toNat s12.2.2) default; let z40 : EV := (106, .ptr 1 [] (0 + (Int.toNat (z4.Frame)) * 1)); let z41 := (112, ii (z4.Frame)); let z42 := (115, ii (z4.Frame)); let z43 : EV := (116, .ptr 2 [] (0 + (Int.toNat (z4.Frame)) * 1)); let z44 : EV := (122, .ptr 2 [] (0 + (Int.toNat (z4.Frame)) * 1)); let z45 := (99, bb (decide ((0 : Int) ≤ (z4.Frame)))); let z5 := List.getD s12.1 (Int.toNat (z4.Frame)) default; let z9 := List.set s12.1 (Int.toNat (z4.Frame)) (w64 (z5 + (1 : Int))); let z6 := List.getD s12.2.1 (Int.toNat (z4.Frame)) default; let z7 := List.set s12.2.1 (Int.toNat (z4.Frame)) (z4.Write); let z8 := List.set s12.2.1 (Int.toNat (z4.Frame)) true
 unfold F_spec_HostOk_l12 at hh
 refine Aw.seq (Aw.sreg [1, 3, 4, 5, 6, 7, 72] [0, 1, 2, 3] ?_)
 let q4 : Root := (rI_3 s12.1); let z46 := (1, some q4)
 refine yt (sp 138 [z11, z36, z37, z30, z17, z38, z39]) [z10, z46, z35, z32] 4 ?_
 rcases cond_sf hh with ⟨hb, hh⟩ | ⟨hb, hh⟩
 · refine cF hb (Aw.exit (then_x (hX12 _ _ _ _ _ (some_some hh) ?_)))
   intro hout
   rw [hout] at hk12
   refine blk_x (blk_m ?_)
   obtain rfl := some_some hk12
   exact hN7 (s12.1, s12.2.1) _ _ _ hk7 (el [some 0, some 1, some 2] (rens_sp kr (rp 0 (rs (sw 1 s12.1) (rs (sw 2 s12.2.1) (ri rl_n))))) (hq (rB26 x_h) (rens_same (nr_B_26 _)) (hn nr_eI (hn nr_eB hs_nil))))
 refine cT hb (Aw.xskip (fun _ _ _ hq => then_m hq) ?_)
 obtain ⟨j13, hh, hk13⟩ := bind_some hh
 refine Aw.join (S := (List Bool) × (List Int)) (fun s13 => sp 138 [(1, pp 0), (3, sw 1 s13.2), (4, sw 2 s13.1), (5, ii s6.2.2), (6, pp 3), (7, ii s12.2.2)]) (fun s13 => [(0, some (rB26 x_h)), (1, some (rI_3 s13.2)), (2, some (rT_4 s13.1)), (3, some (rB108 (List.getD x_h.Guests (Int.toNat s6.2.2) default)))]) 4 (fun s13 => F_spec_HostOk_j13 s12 s13 = some u12) ?_ ?_
 · intro s13 hh
   unfold F_spec_HostOk_j13 at hh
   refine Aw.oreg ?_
   let q5 : Root := (rI_3 s13.2)
   exact ye (sp 138 [z11, (3, sw 1 s13.2), (4, sw 2 s13.1), z30, z17, (7, ii (w64 (s12.2.2 + (1 : Int)))), (73, ii s12.2.2), (74, ii (w64 (s12.2.2 + (1 : Int))))]) [z10, (1, some q5), (2, some (rT_4 s13.1)), z32] 4 (hN12 (s13.2, s13.1, (w64 (s12.2.2 + (1 : Int)))) _ _ _ (some_some hh) (el [some 0, some 1, some 2, some 3] (rens_sp kr (rp 0 (rs (sw 1 s13.2) (rs (sw 2 s13.1) (ri (rp 3 (ri rl_n))))))) (hq (rB26 x_h) (rens_same (nr_B_26 _)) (hn nr_eI (hn nr_eB (hq q3 rz hs_nil))))))
 intro Q13 hN13 hR13 hE13
 refine Aw.block (Aw.sreg [1, 3, 4, 5, 6, 7, 8] [0, 1, 2, 3, 4] (yj 3  (sp 138 [z11, z36, z37, z30, z17, z38, z39, (75, .ptr 3 [] 14), (76, bo C_110 (z3.Pages)), (77, ii s12.2.2)]) [z10, z46, z35, z32] 4 ?_))
 obtain ⟨hg1382, hh⟩ := grd_some hh
 refine ys (.iadr 3 (.t 76) (.t 77)) (some 78) (op_iadr (kd := .i64) (c := C_110) (xs := z3.Pages) len_C_110 dd kr kr hg1382 ?_)
 refine ys (.load true 3 (.t 78)) (some 79) (op_loadbA (c := C_110) (xs := z3.Pages) (o := Int.toNat s12.2.2 * 3) (i := (Int.toNat s12.2.2)) (off := 0) (v := .agg [ii (z4.Frame), bb (z4.Write), bb (z4.Dirty)]) len_C_110 kr ltn ltn dd kr ?_)
 let q6 : Root := ⟨110, [ii (z4.Frame), bb (z4.Write), bb (z4.Dirty)]⟩; let z47 := (4, some q6)
 refine yt (sp 138 [z11, z36, z37, z30, z17, z38, z18]) [z10, z46, z35, z32, z47] 5 ?_
 obtain ⟨j14, hh, hk14⟩ := bind_some hh
 refine Aw.join (S := Unit) (fun s14 => sp 138 [(1, pp 0), (3, sw 1 s12.1), (4, sw 2 s12.2.1), (5, ii s6.2.2), (6, pp 3), (7, ii s12.2.2), (8, pp 4)]) (fun s14 => [(0, some (rB26 x_h)), (1, some (rI_3 s12.1)), (2, some (rT_4 s12.2.1)), (3, some (rB108 (List.getD x_h.Guests (Int.toNat s6.2.2) default))), (4, some ⟨110, [ii ((List.getD ((List.getD x_h.Guests (Int.toNat s6.2.2) default).Pages) (Int.toNat s12.2.2) default).Frame), bb ((List.getD ((List.getD x_h.Guests (Int.toNat s6.2.2) default).Pages) (Int.toNat s12.2.2) default).Write), bb ((List.getD ((List.getD x_h.Guests (Int.toNat s6.2.2) default).Pages) (Int.toNat s12.2.2) default).Dirty)]⟩)]) 5 (fun s14 => F_spec_HostOk_j14 x_h s6 s12 s14 = some j13) ?_ ?_
 · intro s14 hh
   unfold F_spec_HostOk_j14 at hh
   refine sy [1, 3, 4, 5, 6, 7, 8, 99] [0, 1, 2, 3, 4] (sp 138 [z11, z36, z37, z30, z17, z38, z18, z45]) [z10, z46, z35, z32, z47] 5 ?_
   rcases cond_some hh with ⟨hb, hh⟩ | ⟨hb, hh⟩
   · refine cT hb (Aw.sregt [1, 3, 4, 5, 6, 7, 8] [0, 1, 2, 3, 4] ?_)
     obtain ⟨hg1392, hh⟩ := grd_some hh
     refine qc (cs := [(0 : Int) ≤ (z4.Frame) ∧ (z4.Frame) < (((List.length s12.1) : Nat) : Int)]) (E' := (sp 138 [z11, z36, z37, z30, z17, z38, z18, z45, (100, sw 1 s12.1), (101, pp 4), (102, ii (z4.Frame)), (103, sw 1 s12.1), (104, pp 4), (105, ii (z4.Frame)), z40])) (pre := (List.take 7 (rg 36 19))) (L' := (List.drop 7 (rg 36 19))) kr (fun K => by kernel_rfl) (.cons hg1392 .nil) (qs (.load false 1 (.t 106)) (some 107) (yq_q rfl (op_load (c := (eI .i64)) (xs := s12.1) (e := 3) (r := 1) (π := []) (o := 0 + (Int.toNat (z4.Frame)) * 1) (i := (Int.toNat (z4.Frame))) (off := 0) (v := ii z5) len_eI kr kr ltn ltn dd kr ?_)))
     obtain ⟨hg1391, hh⟩ := grd_some hh
     refine qtt (cs := [(0 : Int) ≤ (z4.Frame) ∧ (z4.Frame) < (((List.length s12.1) : Nat) : Int)]) (E' := (sp 138 [z11, z36, z37, z30, z17, z38, z18, z45, (100, sw 1 s12.1), (101, pp 4), (102, ii (z4.Frame)), (103, sw 1 s12.1), (104, pp 4), (105, ii (z4.Frame)), z40, (107, ii z5), (108, ii (w64 (z5 + (1 : Int)))), (109, .ptr 1 [] (0 + (Int.toNat (z4.Frame)) * 1))])) (fun K => by kernel_rfl) (.cons hg1391 .nil) ?_
     let q7 : Root := (rI_3 z9); let z48 := (1, some q7)
     refine ys (.store 1 (.t 109) (.t 108)) none (op_store (c := (eI .i64)) (xs := s12.1) (e := 3) (r := 1) (π := []) (o := 0 + (Int.toNat (z4.Frame)) * 1) (i := (Int.toNat (z4.Frame))) (off := 0) (vs := [ii (w64 (z5 + (1 : Int)))]) (y := (w64 (z5 + (1 : Int)))) (H' := [z48, z10, z46, z35, z32, z47]) len_eI kr kr kr kr ltn ltn dd kr kr ?_)
     refine yt (sp 138 [z11, z36, z37, z30, z17, z38, z18]) [z10, z48, z35, z32, z47] 5 (Aw.oregt ?_)
     obtain ⟨hg1390, hh⟩ := grd_some hh
     refine qc (cs := [(0 : Int) ≤ (z4.Frame) ∧ (z4.Frame) < (((List.length s12.2.1) : Nat) : Int)]) (E' := (sp 138 [z11, z36, z37, z30, z17, z38, z18, z33, z12, z41, z34, z13, z42, z43])) (pre := (List.take 7 (rg 36 21))) (L' := (List.drop 7 (rg 36 21))) kr (fun K => by kernel_rfl) (.cons hg1390 .nil) (qs (.load false 1 (.t 116)) (some 117) (yq_q rfl (op_load (c := eB) (xs := s12.2.1) (e := 4) (r := 2) (π := []) (o := 0 + (Int.toNat (z4.Frame)) * 1) (i := (Int.toNat (z4.Frame))) (off := 0) (v := bb z6) len_eB kr kr ltn ltn dd kr ?_)))
     refine qc (cs := []) (E' := (sp 138 [z11, z36, z37, z30, z17, z38, z18, z33, z12, z41, z34, z13, z42, z43, (117, bb z6), (118, bb z6)])) (pre := (List.take 1 (List.drop 8 (rg 36 21)))) (L' := (List.drop 9 (rg 36 21))) kr (fun K => by kernel_rfl) .nil ?_
     rcases cond_some hh with ⟨hb, hh⟩ | ⟨hb, hh⟩
     · refine qbs (t := 117) hb kr (qbs (t := 118) hb kr ?_)
       obtain ⟨hg1388, hh⟩ := grd_some hh
       refine qtt (cs := [(0 : Int) ≤ (z4.Frame) ∧ (z4.Frame) < (((List.length s12.2.1) : Nat) : Int)]) (E' := (sp 138 [z11, z36, z37, z30, z17, z38, z18, z33, z12, z41, z34, z13, z42, z43, (117, bb true), (118, bb true), (119, .und), (120, .und), (121, bb true), z44])) (fun K => by kernel_rfl) (.cons hg1388 .nil) ?_
       let q8 : Root := (rT_4 z8)
       refine ys (.store 1 (.t 122) (.t 121)) none (op_store (c := eB) (xs := s12.2.1) (e := 4) (r := 2) (π := []) (o := 0 + (Int.toNat (z4.Frame)) * 1) (i := (Int.toNat (z4.Frame))) (off := 0) (vs := [bb true]) (y := true) (H' := [(2, some q8), z10, z48, z35, z32, z47]) len_eB kr kr kr kr ltn ltn dd kr kr ?_)
       refine ye (sp 138 [z11, z36, z37, z30, z17, z38, z18, z33, z12, z41, z34, z13, z42, z43, (117, bb true), (118, bb true), (119, .und), (120, .und), (121, bb true), z44]) [(2, some q8), z10, z48, z35, z32, z47] 5 (blk_m ?_)
       obtain rfl := some_some hh
       exact hN13 (z8, z9) _ _ _ hk13 (el [some 0, some 1, some 2, some 3] (rens_sp kr (rp 0 (rs (sw 1 s12.1) (rs (sw 2 s12.2.1) (ri (rp 3 (ri rl_n))))))) (hq (rB26 x_h) (rens_same (nr_B_26 _)) (hn nr_eI (hn nr_eB (hq q3 rz hs_nil)))))
     refine qbs (t := 117) hb kr (qbs (t := 118) hb kr ?_)
     obtain ⟨hg1389, hh⟩ := grd_some hh
     refine qtt (cs := [(0 : Int) ≤ (z4.Frame) ∧ (z4.Frame) < (((List.length s12.2.1) : Nat) : Int)]) (E' := (sp 138 [z11, z36, z37, z30, z17, z38, z18, z33, z12, z41, z34, z13, z42, z43, (117, bb false), (118, bb false), (119, .ptr 4 [] 1), (120, bb (z4.Write)), (121, bb (z4.Write)), z44])) (fun K => by kernel_rfl) (.cons hg1389 .nil) ?_
     let q9 : Root := (rT_4 z7)
     refine ys (.store 1 (.t 122) (.t 121)) none (op_store (c := eB) (xs := s12.2.1) (e := 4) (r := 2) (π := []) (o := 0 + (Int.toNat (z4.Frame)) * 1) (i := (Int.toNat (z4.Frame))) (off := 0) (vs := [bb (z4.Write)]) (y := z4.Write) (H' := [(2, some q9), z10, z48, z35, z32, z47]) len_eB kr kr kr kr ltn ltn dd kr kr ?_)
     refine ye (sp 138 [z11, z36, z37, z30, z17, z38, z18, z33, z12, z41, z34, z13, z42, z43, (117, bb false), (118, bb false), (119, .ptr 4 [] 1), (120, bb (z4.Write)), (121, bb (z4.Write)), z44]) [(2, some q9), z10, z48, z35, z32, z47] 5 (blk_m ?_)
     obtain rfl := some_some hh
     exact hN13 (z7, z9) _ _ _ hk13 (el [some 0, some 1, some 2, some 3] (rens_sp kr (rp 0 (rs (sw 1 s12.1) (rs (sw 2 s12.2.1) (ri (rp 3 (ri rl_n))))))) (hq (rB26 x_h) (rens_same (nr_B_26 _)) (hn nr_eI (hn nr_eB (hq q3 rz hs_nil)))))
   refine cF hb (Aw.skip (blk_m ?_))
   obtain rfl := some_some hh
   exact hN13 (s12.2.1, s12.1) _ _ _ hk13 (el [some 0, some 1, some 2, some 3] (rens_sp kr (rp 0 (rs (sw 1 s12.1) (rs (sw 2 s12.2.1) (ri (rp 3 (ri rl_n))))))) (hq (rB26 x_h) (rens_same (nr_B_26 _)) (hn nr_eI (hn nr_eB (hq q3 rz hs_nil)))))
 intro Q14 hN14 hR14 hE14
 refine Aw.sreg [1, 3, 4, 5, 6, 7, 8, 96] [0, 1, 2, 3, 4] (yj 2  (sp 138 [z11, z36, z37, z30, z17, z38, z18, (80, pp 4), (81, ii (z4.Frame))]) [z10, z46, z35, z32, z47] 5 ?_)
 obtain ⟨v15, hv15, hh⟩ := bind_some hh
 refine ys (.call 38 [(.t 81), (.c (ii (-1))), (.c (ii 19))]) (some 82) (oc (spec_l1In_fn hv15) ?_)
 refine yu 2 [(82, bb v15), (83, bb (!v15)), (84, bb (!v15))] [z10, z46, z35, z32, z47] 5 ?_
 rcases cond_some hh with ⟨hb, hh⟩ | ⟨hb, hh⟩
 · refine yb 83 hb (yb 84 hb (yt (sp 138 [z11, z36, z37, z30, z17, z38, z18, (96, bb true)]) [z10, z46, z35, z32, z47] 5 (cT rfl (sy [2] [] (sp 138 [z14]) [] 5 (Aw.ret ?_)))))
   obtain rfl := some_some hh
   refine hR14 _ _ _ (blk_r ?_)
   obtain rfl := some_some hk14
   refine hR13 _ _ _ ((hR12 _ _ _ _ (some_some hk13) ?_))
   intro hout
   rw [hout] at hk12
   refine blk_r (blk_r ?_)
   obtain rfl := some_some hk12
   refine hR7 _ _ _ ((hR6 _ _ _ _ (some_some hk7) ?_))
   intro hout
   rw [hout] at hk6
   refine blk_r ?_
   obtain rfl := some_some hk6
   refine hR2 _ _ _ ?_
   rw [some_some hk2]
   exact gvb
 refine yb 83 hb (yb 84 hb (yu 4 [(83, bb false), (84, bb false), (85, pp 4), (86, ii (z4.Frame)), (87, bb (decide ((z4.Frame) = (-1 : Int)))), (88, bb (decide ((z4.Frame) = (-1 : Int))))] [z10, z46, z35, z32, z47] 5 ?_))
 rcases cond_sf hh with ⟨hb, hh⟩ | ⟨hb, hh⟩
 · refine yb 87 hb (yb 88 hb (yt (sp 138 [z11, z36, z37, z30, z17, z38, z18, (96, bb false)]) [z10, z46, z35, z32, z47] 5 (cF rfl (Aw.skip ?_))))
   obtain rfl := some_some hh
   exact hN14 () _ _ _ hk14 (el [some 0, some 1, some 2, some 3, some 4] (rens_sp kr (rp 0 (rs (sw 1 s12.1) (rs (sw 2 s12.2.1) (ri (rp 3 (ri (rp 4 rl_n)))))))) (hq (rB26 x_h) (rens_same (nr_B_26 _)) (hn nr_eI (hn nr_eB (hq q3 rz (hq q6 rz hs_nil))))))
 refine yb 87 hb (yb 88 hb (yu 3 [(87, bb true), (88, bb true), (89, .ptr 4 [] 1), (90, bb (z4.Write)), (91, bb (z4.Write))] [z10, z46, z35, z32, z47] 5 ?_))
 rcases cond_some hh with ⟨hb, hh⟩ | ⟨hb, hh⟩
 · refine yb 90 hb (yb 91 hb (yt (sp 138 [z11, z36, z37, z30, z17, z38, z18, (96, bb true)]) [z10, z46, z35, z32, z47] 5 (cT rfl (sy [2] [] (sp 138 [z14]) [] 5 (Aw.ret ?_)))))
   obtain rfl := some_some hh
   refine hR14 _ _ _ (blk_r ?_)
   obtain rfl := some_some hk14
   refine hR13 _ _ _ ((hR12 _ _ _ _ (some_some hk13) ?_))
   intro hout
   rw [hout] at hk12
   refine blk_r (blk_r ?_)
   obtain rfl := some_some hk12
   refine hR7 _ _ _ ((hR6 _ _ _ _ (some_some hk7) ?_))
   intro hout
   rw [hout] at hk6
   refine blk_r ?_
   obtain rfl := some_some hk6
   refine hR2 _ _ _ ?_
   rw [some_some hk2]
   exact gvb
 refine yb 90 hb (yb 91 hb (yt (sp 138 [z11, z36, z37, z30, z17, z38, z18, (96, bb (z4.Dirty))]) [z10, z46, z35, z32, z47] 5 ?_))
 rcases cond_sf hh with ⟨hb, hh⟩ | ⟨hb, hh⟩
 · refine cF hb (Aw.skip ?_)
   obtain rfl := some_some hh
   exact hN14 () _ _ _ hk14 (el [some 0, some 1, some 2, some 3, some 4] (rens_sp kr (rp 0 (rs (sw 1 s12.1) (rs (sw 2 s12.2.1) (ri (rp 3 (ri (rp 4 rl_n)))))))) (hq (rB26 x_h) (rens_same (nr_B_26 _)) (hn nr_eI (hn nr_eB (hq q3 rz (hq q6 rz hs_nil))))))
 refine cT hb (sy [2] [] (sp 138 [z14]) [] 5 (Aw.ret ?_))
 obtain rfl := some_some hh
 refine hR14 _ _ _ (blk_r ?_)
 obtain rfl := some_some hk14
 refine hR13 _ _ _ ((hR12 _ _ _ _ (some_some hk13) ?_))
 intro hout
 rw [hout] at hk12
 refine blk_r (blk_r ?_)
 obtain rfl := some_some hk12
 refine hR7 _ _ _ ((hR6 _ _ _ _ (some_some hk7) ?_))
 intro hout
 rw [hout] at hk6
 refine blk_r ?_
 obtain rfl := some_some hk6
 refine hR2 _ _ _ ?_
 rw [some_some hk2]
 exact gvb
end Go.Proofs.Ytbnjdmclnojlmaa
