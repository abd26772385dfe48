/- Plain functions of the program, and that it hands back what they say. Made by program. -/
import Derived.Test.YtbanbjdcgdmkaaaWT
import Derived.Test.YtbanbjdcgdmkaaaProg
import Derived.Test.YtbanbjdcgdmkaaaWO1
import Derived.Test.YtbanbjdcgdmkaaaWSO1
namespace Go.Proofs.Ytbanbjdcgdmkaaa
open Go.RowKit
set_option maxRecDepth 100000
set_option linter.all false
set_option maxHeartbeats 0
theorem low_impl_entryLets:LW 72 ⟨25,[(.tmp 6)],(.seq (.reg false (rg 72 0)) (.seq (.reg false (rg 72 1)) .ret))⟩:=kr
noncomputable def F_impl_entryLets (x_e:DEntry) (x_user:Bool) (x_write:Bool):Option Bool :=
 cond x_e.There
  (cond x_e.Write
   (cond x_e.User
    (some true)
    (some (!x_user)))
   (cond (!x_write)
    (cond x_e.User
     (some true)
     (some (!x_user)))
    (some false)))
  (some false)
theorem impl_entryLets_fn {x_e:DEntry} {x_user:Bool} {x_write:Bool} {R_:Bool} (hh:F_impl_entryLets x_e x_user x_write=some R_):Fn Try.prog 72 [.agg (C_102 x_e),.bool x_user,.bool x_write] (.bool R_):=by
 let z1:EH:=(0,some ⟨102,(C_102 x_e)⟩)
 unfold F_impl_entryLets at hh
 refine Fn.start low_impl_entryLets [0,1,2] (E:=sp 25 [(0,.agg (C_102 x_e)),(1,bb x_user),(2,bb x_write)]) kr (v:=bb R_) (Hr:=[]) (k:=0) kr (sy [1,2,3] [0] (sp 25 [(1,bb x_user),(2,bb x_write),(3,pp 0)]) [z1] 1 (Aw.sreg [6] [] (yu 3 [(7,pp 0),(8,bb x_e.There),(9,bb x_e.There)] [z1] 1 ?_)))
 rcases cond_sf hh with ⟨hb,hh⟩ | ⟨hb,hh⟩
 · exact yb 8 hb (yb 9 hb (yt (sp 25 [(6,bb false)]) [] 1 (Aw.ret (gvbs hh))))
 refine yb 8 hb (yb 9 hb (yu 3 [(8,bb true),(9,bb true),(10,.ptr 0 [] 1),(11,bb x_e.Write),(12,bb x_e.Write)] [z1] 1 ?_))
 rcases cond_some hh with ⟨hb,hh⟩ | ⟨hb,hh⟩
 · refine yb 11 hb (yb 12 hb (yu 8 [(11,bb true),(12,bb true),(13,.und),(14,.und),(15,bb true),(16,bb true),(17,bb true),(18,.ptr 0 [] 2),(19,bb x_e.User),(20,bb x_e.User)] [z1] 1 ?_))
   rcases cond_sf hh with ⟨hb,hh⟩ | ⟨hb,hh⟩
   · exact yb 19 hb (yb 20 hb (yt (sp 25 [(6,bb (!x_user))]) [] 1 (Aw.ret (gvbs hh))))
   exact yb 19 hb (yb 20 hb (yt (sp 25 [(6,bb true)]) [] 1 (Aw.ret (gvbs hh))))
 refine yb 11 hb (yb 12 hb (yu 5 [(11,bb false),(12,bb false),(13,bb x_write),(14,bb (!x_write)),(15,bb (!x_write)),(16,bb (!x_write)),(17,bb (!x_write))] [z1] 1 ?_))
 rcases cond_sf hh with ⟨hb,hh⟩ | ⟨hb,hh⟩
 · exact yb 14 hb (yb 15 hb (yb 16 hb (yb 17 hb (yt (sp 25 [(6,bb false)]) [] 1 (Aw.ret (gvbs hh))))))
 refine yb 14 hb (yb 15 hb (yb 16 hb (yb 17 hb (yu 3 [(14,bb true),(15,bb true),(16,bb true),(17,bb true),(18,.ptr 0 [] 2),(19,bb x_e.User),(20,bb x_e.User)] [z1] 1 ?_))))
 rcases cond_sf hh with ⟨hb,hh⟩ | ⟨hb,hh⟩
 · exact yb 19 hb (yb 20 hb (yt (sp 25 [(6,bb (!x_user))]) [] 1 (Aw.ret (gvbs hh))))
 exact yb 19 hb (yb 20 hb (yt (sp 25 [(6,bb true)]) [] 1 (Aw.ret (gvbs hh))))
theorem low_impl_Walk:LW 18 ⟨48,[(.tmp 10)],(.seq (.reg false (rg 18 0)) (.seq (.seq (.reg false (rg 18 1)) (.cond (.t 24) (.seq (.reg false (rg 18 2)) .ret) .skip)) (.seq (.seq (.reg false (rg 18 3)) (.cond (.t 26) (.seq (.reg false (rg 18 4)) .ret) .skip)) (.seq (.reg false (rg 18 5)) (.seq (.seq (.reg false (rg 18 6)) (.cond (.t 41) (.seq (.reg false (rg 18 7)) .ret) .skip)) (.seq (.reg false (rg 18 8)) .ret))))))⟩:=kr
noncomputable def F_impl_Walk (x_mem:List Int) (x_root:Int) (x_addr:Int) (x_user:Bool) (x_write:Bool):Option Int :=
 Option.bind (F_impl_MemOk x_mem) fun v1 =>
 cond (!v1)
  (some (-1:Int))
  (Option.bind (F_impl_rootOk x_root) fun v2 =>
  cond (!v2)
   (some (-1:Int))
   (Option.bind (F_impl_addressOk x_addr) fun v3 =>
   cond (!v3)
    (some (-1:Int))
    (cond (decide (x_root=(-1:Int)))
     (some x_addr)
     (grd ((0:Int)≤(w64 ((w64 (x_root*(8:Int)))+(w64 (Int.tdiv x_addr (8:Int)))))∧(w64 ((w64 (x_root*(8:Int)))+(w64 (Int.tdiv x_addr (8:Int)))))<((List.length x_mem:Nat):Int)) (Option.bind (F_impl_EntryFrom (List.getD x_mem (Int.toNat (w64 ((w64 (x_root*(8:Int)))+(w64 (Int.tdiv x_addr (8:Int)))))) default)) fun v4 =>
      Option.bind (F_impl_entryLets v4 x_user x_write) fun v5 =>
      cond (!v5)
       (some (-1:Int))
       (some (w64 ((w64 (v4.Page*(8:Int)))+(Int.tmod x_addr (8:Int))))))))))
theorem impl_Walk_fn {x_mem:List Int} {x_root:Int} {x_addr:Int} {x_user:Bool} {x_write:Bool} {R_:Int} (hh:F_impl_Walk x_mem x_root x_addr x_user x_write=some R_):Fn Try.prog 18 [bo (eI .i64) x_mem,.int .i64 x_root,.int .i64 x_addr,.bool x_user,.bool x_write] (.int .i64 R_):=by
 let z1:=(0,bo (eI .i64) x_mem); let z2:=(1,ii x_root); let z3:=(10,ii (-1)); let z4:=(2,ii x_addr); let z5:=(26,bb (decide (x_root=(-1:Int)))); let z6:=(3,bb x_user); let z7:=(4,bb x_write)
 unfold F_impl_Walk at hh
 refine Fn.start low_impl_Walk [0,1,2,3,4] (E:=sp 48 [z1,z2,z4,z6,z7]) kr (v:=ii R_) (Hr:=[]) (k:=0) kr (sy [0,1,2,3,4] [] (sp 48 [z1,z2,z4,z6,z7]) [] 0 (Aw.seq (Aw.sreg [0,1,2,3,4,24] [] (yj 1  (sp 48 [z1,z2,z4,z6,z7,(12,bo (eI .i64) x_mem)]) [] 0 ?_))))
 obtain ⟨v1,hv1,hh⟩:=bind_some hh
 refine ys (.call 66 [(.t 12)]) (some 13) (oc (impl_MemOk_fn hv1) ?_)
 refine yu 2 [(13,bb v1),(14,bb (!v1)),(15,bb (!v1))] [] 0 ?_
 rcases cond_some hh with ⟨hb,hh⟩ | ⟨hb,hh⟩
 · exact yb 14 hb (yb 15 hb (yt (sp 48 [z1,z2,z4,z6,z7,(24,bb true)]) [] 0 (cT rfl (sy [10] [] (sp 48 [z3]) [] 0 (Aw.ret (then_r (gvis hh)))))))
 refine yb 14 hb (yb 15 hb (yu 1 [(14,bb false),(15,bb false),(16,ii x_root)] [] 0 ?_))
 obtain ⟨v2,hv2,hh⟩:=bind_some hh
 refine yg (.call 69 [(.t 16)]) (some 17) 15 false (oc (impl_rootOk_fn hv2) ?_)
 refine yu 3 [(17,bb v2),(18,bb (!v2)),(19,bb (!v2)),(20,bb (!v2))] [] 0 ?_
 rcases cond_some hh with ⟨hb,hh⟩ | ⟨hb,hh⟩
 · exact yb 18 hb (yb 19 hb (yb 20 hb (yt (sp 48 [z1,z2,z4,z6,z7,(24,bb true)]) [] 0 (cT rfl (sy [10] [] (sp 48 [z3]) [] 0 (Aw.ret (then_r (gvis hh))))))))
 refine yb 18 hb (yb 19 hb (yb 20 hb (yu 1 [(18,bb false),(19,bb false),(20,bb false),(21,ii x_addr)] [] 0 ?_)))
 obtain ⟨v3,hv3,hh⟩:=bind_some hh
 refine yg (.call 70 [(.t 21)]) (some 22) 20 false (oc (impl_addressOk_fn hv3) ?_)
 refine yt (sp 48 [z1,z2,z4,z6,z7,(24,bb (!v3))]) [] 0 ?_
 rcases cond_some hh with ⟨hb,hh⟩ | ⟨hb,hh⟩
 · exact cT hb (sy [10] [] (sp 48 [z3]) [] 0 (Aw.ret (then_r (gvis hh))))
 refine cF hb (Aw.xskip (fun _ _ _ hq=>then_m hq) (Aw.seq (sy [0,1,2,3,4,26] [] (sp 48 [z1,z2,z4,z6,z7,z5]) [] 0 ?_)))
 rcases cond_some hh with ⟨hb,hh⟩ | ⟨hb,hh⟩
 · exact cT hb (sy [10] [] (sp 48 [(10,ii x_addr)]) [] 0 (Aw.ret (then_r (gvis hh))))
 refine cF hb (Aw.xskip (fun _ _ _ hq=>then_m hq) (Aw.sreg [2,3,4,11] [0] (yjc 6 [(8:Int)≠0] (sp 48 [z1,z2,z4,z6,z7,z5,(28,bo (eI .i64) x_mem),(29,ii x_root),(30,ii (w64 (x_root*(8:Int)))),(31,ii x_addr),(32,ii (w64 (Int.tdiv x_addr (8:Int)))),(33,ii (w64 ((w64 (x_root*(8:Int)))+(w64 (Int.tdiv x_addr (8:Int))))))]) [] 0 (.cons dd .nil) ?_)))
 obtain ⟨hg2,hh⟩:=grd_some hh
 refine ys (.iadr 1 (.t 28) (.t 33)) (some 34) (op_iadr (kd:=.i64) (c:=(eI .i64)) (xs:=x_mem) len_eI dd kr kr hg2 ?_)
 refine ys (.load false 1 (.t 34)) (some 35) (op_loadb (c:=(eI .i64)) (xs:=x_mem) (o:=Int.toNat (w64 ((w64 (x_root*(8:Int)))+(w64 (Int.tdiv x_addr (8:Int)))))*1) (i:=(Int.toNat (w64 ((w64 (x_root*(8:Int)))+(w64 (Int.tdiv x_addr (8:Int))))))) (off:=0) (v:=ii (List.getD x_mem (Int.toNat (w64 ((w64 (x_root*(8:Int)))+(w64 (Int.tdiv x_addr (8:Int)))))) default)) len_eI kr ltn ltn dd kr ?_)
 obtain ⟨v4,hv4,hh⟩:=bind_some hh
 let z8:EH:=(0,some ⟨102,(C_102 v4)⟩)
 refine ys (.call 71 [(.t 35)]) (some 36) (oc (impl_EntryFrom_fn hv4) ?_)
 refine yt (sp 48 [z4,z6,z7,(11,pp 0)]) [z8] 1 (Aw.seq (Aw.sreg [2,11,41] [0] (yj 3  (sp 48 [z4,z6,z7,(11,pp 0),(37,.agg (C_102 v4)),(38,bb x_user),(39,bb x_write)]) [z8] 1 ?_)))
 obtain ⟨v5,hv5,hh⟩:=bind_some hh
 refine ys (.call 72 [(.t 37),(.t 38),(.t 39)]) (some 40) (oc (impl_entryLets_fn hv5) ?_)
 refine yt (sp 48 [z4,(11,pp 0),(41,bb (!v5))]) [z8] 1 ?_
 rcases cond_some hh with ⟨hb,hh⟩ | ⟨hb,hh⟩
 · exact cT hb (sy [10] [] (sp 48 [z3]) [] 1 (Aw.ret (then_r (gvis hh))))
 exact cF hb (Aw.xskip (fun _ _ _ hq=>then_m hq) (Aw.sreg [10] [] (ytc [(8:Int)≠0] (sp 48 [(10,ii (w64 ((w64 (v4.Page*(8:Int)))+(Int.tmod x_addr (8:Int)))))]) [] 1 (.cons dd .nil) (Aw.ret (gvis hh)))))
theorem low_spec_Walk:LW 51 ⟨62,[(.tmp 10)],(.seq (.reg false (rg 51 0)) (.seq (.seq (.reg false (rg 51 1)) (.cond (.t 24) (.seq (.reg false (rg 51 2)) .ret) .skip)) (.seq (.seq (.reg false (rg 51 3)) (.cond (.t 26) (.seq (.reg false (rg 51 4)) .ret) .skip)) (.seq (.reg false (rg 51 5)) (.seq (.seq (.reg false (rg 51 6)) (.cond (.t 55) (.seq (.reg false (rg 51 7)) .ret) .skip)) (.seq (.reg false (rg 51 8)) .ret))))))⟩:=kr
noncomputable def F_spec_Walk_j5 (x_addr:Int) (v4:DEntry) (s5:Unit):Option Int :=
 some (w64 ((w64 (v4.Page*(8:Int)))+(Int.tmod x_addr (8:Int))))
noncomputable def F_spec_Walk (x_mem:List Int) (x_root:Int) (x_addr:Int) (x_user:Bool) (x_write:Bool):Option Int :=
 Option.bind (F_spec_MemOk x_mem) fun v1 =>
 cond (!v1)
  (some (-1:Int))
  (Option.bind (F_spec_l1In x_root (-1:Int) (7:Int)) fun v2 =>
  cond (!v2)
   (some (-1:Int))
   (Option.bind (F_spec_l1In x_addr (0:Int) (63:Int)) fun v3 =>
   cond (!v3)
    (some (-1:Int))
    (cond (decide (x_root=(-1:Int)))
     (some x_addr)
     (grd ((0:Int)≤(w64 ((w64 (x_root*(8:Int)))+(w64 (Int.tdiv x_addr (8:Int)))))∧(w64 ((w64 (x_root*(8:Int)))+(w64 (Int.tdiv x_addr (8:Int)))))<((List.length x_mem:Nat):Int)) (Option.bind (F_spec_EntryFrom (List.getD x_mem (Int.toNat (w64 ((w64 (x_root*(8:Int)))+(w64 (Int.tdiv x_addr (8:Int)))))) default)) fun v4 =>
      Option.bind (cond (!v4.There)
       (some (.out (-1:Int)))
       (cond x_write
        (cond (!v4.Write)
         (some (.out (-1:Int)))
         (cond x_user
          (cond (!v4.User)
           (some (.out (-1:Int)))
           (some (.go ())))
          (some (.go ()))))
        (cond x_user
         (cond (!v4.User)
          (some (.out (-1:Int)))
          (some (.go ())))
         (some (.go ()))))) fun j5 =>
       JO.run j5 (F_spec_Walk_j5 x_addr v4))))))
theorem spec_Walk_fn {x_mem:List Int} {x_root:Int} {x_addr:Int} {x_user:Bool} {x_write:Bool} {R_:Int} (hh:F_spec_Walk x_mem x_root x_addr x_user x_write=some R_):Fn Try.prog 51 [bo (eI .i64) x_mem,.int .i64 x_root,.int .i64 x_addr,.bool x_user,.bool x_write] (.int .i64 R_):=by
 let z1:=(0,bo (eI .i64) x_mem); let z2:=(1,ii x_root); let z3:=(10,ii (-1)); let z4:=(11,pp 0); let z5:=(2,ii x_addr); let z6:=(26,bb (decide (x_root=(-1:Int)))); let z7:=(3,bb x_user); let z8:=(4,bb x_write)
 unfold F_spec_Walk at hh
 refine Fn.start low_spec_Walk [0,1,2,3,4] (E:=sp 62 [z1,z2,z5,z7,z8]) kr (v:=ii R_) (Hr:=[]) (k:=0) kr (sy [0,1,2,3,4] [] (sp 62 [z1,z2,z5,z7,z8]) [] 0 (Aw.seq (Aw.sreg [0,1,2,3,4,24] [] (yj 1  (sp 62 [z1,z2,z5,z7,z8,(12,bo (eI .i64) x_mem)]) [] 0 ?_))))
 obtain ⟨v1,hv1,hh⟩:=bind_some hh
 refine ys (.call 120 [(.t 12)]) (some 13) (oc (spec_MemOk_fn hv1) ?_)
 refine yu 2 [(13,bb v1),(14,bb (!v1)),(15,bb (!v1))] [] 0 ?_
 rcases cond_some hh with ⟨hb,hh⟩ | ⟨hb,hh⟩
 · exact yb 14 hb (yb 15 hb (yt (sp 62 [z1,z2,z5,z7,z8,(24,bb true)]) [] 0 (cT rfl (sy [10] [] (sp 62 [z3]) [] 0 (Aw.ret (then_r (gvis hh)))))))
 refine yb 14 hb (yb 15 hb (yu 1 [(14,bb false),(15,bb false),(16,ii x_root)] [] 0 ?_))
 obtain ⟨v2,hv2,hh⟩:=bind_some hh
 refine yg (.call 73 [(.t 16),(.c (ii (-1))),(.c (ii 7))]) (some 17) 15 false (oc (spec_l1In_fn hv2) ?_)
 refine yu 3 [(17,bb v2),(18,bb (!v2)),(19,bb (!v2)),(20,bb (!v2))] [] 0 ?_
 rcases cond_some hh with ⟨hb,hh⟩ | ⟨hb,hh⟩
 · exact yb 18 hb (yb 19 hb (yb 20 hb (yt (sp 62 [z1,z2,z5,z7,z8,(24,bb true)]) [] 0 (cT rfl (sy [10] [] (sp 62 [z3]) [] 0 (Aw.ret (then_r (gvis hh))))))))
 refine yb 18 hb (yb 19 hb (yb 20 hb (yu 1 [(18,bb false),(19,bb false),(20,bb false),(21,ii x_addr)] [] 0 ?_)))
 obtain ⟨v3,hv3,hh⟩:=bind_some hh
 refine yg (.call 73 [(.t 21),(.c (ii 0)),(.c (ii 63))]) (some 22) 20 false (oc (spec_l1In_fn hv3) ?_)
 refine yt (sp 62 [z1,z2,z5,z7,z8,(24,bb (!v3))]) [] 0 ?_
 rcases cond_some hh with ⟨hb,hh⟩ | ⟨hb,hh⟩
 · exact cT hb (sy [10] [] (sp 62 [z3]) [] 0 (Aw.ret (then_r (gvis hh))))
 refine cF hb (Aw.xskip (fun _ _ _ hq=>then_m hq) (Aw.seq (sy [0,1,2,3,4,26] [] (sp 62 [z1,z2,z5,z7,z8,z6]) [] 0 ?_)))
 rcases cond_some hh with ⟨hb,hh⟩ | ⟨hb,hh⟩
 · exact cT hb (sy [10] [] (sp 62 [(10,ii x_addr)]) [] 0 (Aw.ret (then_r (gvis hh))))
 refine cF hb (Aw.xskip (fun _ _ _ hq=>then_m hq) (Aw.sreg [2,3,4,11] [0] (yjc 6 [(8:Int)≠0] (sp 62 [z1,z2,z5,z7,z8,z6,(28,bo (eI .i64) x_mem),(29,ii x_root),(30,ii (w64 (x_root*(8:Int)))),(31,ii x_addr),(32,ii (w64 (Int.tdiv x_addr (8:Int)))),(33,ii (w64 ((w64 (x_root*(8:Int)))+(w64 (Int.tdiv x_addr (8:Int))))))]) [] 0 (.cons dd .nil) ?_)))
 obtain ⟨hg2,hh⟩:=grd_some hh
 refine ys (.iadr 1 (.t 28) (.t 33)) (some 34) (op_iadr (kd:=.i64) (c:=(eI .i64)) (xs:=x_mem) len_eI dd kr kr hg2 ?_)
 refine ys (.load false 1 (.t 34)) (some 35) (op_loadb (c:=(eI .i64)) (xs:=x_mem) (o:=Int.toNat (w64 ((w64 (x_root*(8:Int)))+(w64 (Int.tdiv x_addr (8:Int)))))*1) (i:=(Int.toNat (w64 ((w64 (x_root*(8:Int)))+(w64 (Int.tdiv x_addr (8:Int))))))) (off:=0) (v:=ii (List.getD x_mem (Int.toNat (w64 ((w64 (x_root*(8:Int)))+(w64 (Int.tdiv x_addr (8:Int)))))) default)) len_eI kr ltn ltn dd kr ?_)
 obtain ⟨v4,hv4,hh⟩:=bind_some hh
 let z9:EH:=(0,some ⟨102,(C_102 v4)⟩)
 refine ys (.call 121 [(.t 35)]) (some 36) (oc (spec_EntryFrom_fn hv4) ?_)
 refine yt (sp 62 [z5,z7,z8,z4]) [z9] 1 ?_
 obtain ⟨j5,hh,hk5⟩:=bind_some hh
 refine Aw.join (S:=Unit) (fun s5=>sp 62 [(2,ii x_addr),(11,pp 0)]) (fun s5=>[(0,some ⟨102,(C_102 v4)⟩)]) 1 (fun s5=>F_spec_Walk_j5 x_addr v4 s5=some R_) ?_ ?_
 · intro s5 hh
   unfold F_spec_Walk_j5 at hh
   exact Aw.sreg [10] [] (ytc [(8:Int)≠0] (sp 62 [(10,ii (w64 ((w64 (v4.Page*(8:Int)))+(Int.tmod x_addr (8:Int)))))]) [] 1 (.cons dd .nil) (Aw.ret (gvis hh)))
 intro Q5 hN5 hR5 hE5
 refine Aw.sreg [2,11,55] [0] (yj 4  (sp 62 [z5,z7,z8,z4,(37,pp 0),(38,bb v4.There),(39,bb (!v4.There)),(40,bb (!v4.There))]) [z9] 1 ?_)
 rcases cond_some hh with ⟨hb,hh⟩ | ⟨hb,hh⟩
 · refine yb 39 hb (yb 40 hb (yt (sp 62 [z5,z4,(55,bb true)]) [z9] 1 (cT rfl (sy [10] [] (sp 62 [z3]) [] 1 (Aw.ret ?_)))))
   obtain rfl:=some_some hh
   refine hR5 _ _ _ ?_
   rw [some_some hk5]
   exact gvi
 refine yb 39 hb (yb 40 hb (yu 2 [(39,bb false),(40,bb false),(41,bb x_write),(42,bb x_write)] [z9] 1 ?_))
 rcases cond_sf hh with ⟨hb,hh⟩ | ⟨hb,hh⟩
 · refine yb 4 hb (yb 41 hb (yb 42 hb (yu 8 [(4,bb false),(41,bb false),(42,bb false),(43,.und),(44,.und),(45,.und),(46,bb false),(47,bb false),(48,bb false),(49,bb x_user),(50,bb x_user)] [z9] 1 ?_)))
   rcases cond_sf hh with ⟨hb,hh⟩ | ⟨hb,hh⟩
   · refine yb 3 hb (yb 49 hb (yb 50 hb (yt (sp 62 [z5,z4,(55,bb false)]) [z9] 1 (cF rfl (Aw.skip ?_)))))
     obtain rfl:=some_some hh
     exact hN5 () _ _ _ hk5 (el [some 0] (rens_sp kr (ri (rp 0 rl_n))) (hq ⟨102,(C_102 v4)⟩ (rens_same (nr_C_102 _)) hs_nil))
   refine yb 3 hb (yb 49 hb (yb 50 hb (yt (sp 62 [z5,z4,(55,bb (!v4.User))]) [z9] 1 ?_)))
   rcases cond_sf hh with ⟨hb,hh⟩ | ⟨hb,hh⟩
   · refine cF hb (Aw.skip ?_)
     obtain rfl:=some_some hh
     exact hN5 () _ _ _ hk5 (el [some 0] (rens_sp kr (ri (rp 0 rl_n))) (hq ⟨102,(C_102 v4)⟩ (rens_same (nr_C_102 _)) hs_nil))
   refine cT hb (sy [10] [] (sp 62 [z3]) [] 1 (Aw.ret ?_))
   obtain rfl:=some_some hh
   refine hR5 _ _ _ ?_
   rw [some_some hk5]
   exact gvi
 refine yb 4 hb (yb 41 hb (yb 42 hb (yu 6 [(4,bb true),(41,bb true),(42,bb true),(43,.ptr 0 [] 1),(44,bb v4.Write),(45,bb (!v4.Write)),(46,bb (!v4.Write)),(47,bb (!v4.Write)),(48,bb (!v4.Write))] [z9] 1 ?_)))
 rcases cond_some hh with ⟨hb,hh⟩ | ⟨hb,hh⟩
 · refine yb 45 hb (yb 46 hb (yb 47 hb (yb 48 hb (yt (sp 62 [z5,z4,(55,bb true)]) [z9] 1 (cT rfl (sy [10] [] (sp 62 [z3]) [] 1 (Aw.ret ?_)))))))
   obtain rfl:=some_some hh
   refine hR5 _ _ _ ?_
   rw [some_some hk5]
   exact gvi
 refine yb 45 hb (yb 46 hb (yb 47 hb (yb 48 hb (yu 2 [(45,bb false),(46,bb false),(47,bb false),(48,bb false),(49,bb x_user),(50,bb x_user)] [z9] 1 ?_))))
 rcases cond_sf hh with ⟨hb,hh⟩ | ⟨hb,hh⟩
 · refine yb 3 hb (yb 49 hb (yb 50 hb (yt (sp 62 [z5,z4,(55,bb false)]) [z9] 1 (cF rfl (Aw.skip ?_)))))
   obtain rfl:=some_some hh
   exact hN5 () _ _ _ hk5 (el [some 0] (rens_sp kr (ri (rp 0 rl_n))) (hq ⟨102,(C_102 v4)⟩ (rens_same (nr_C_102 _)) hs_nil))
 refine yb 3 hb (yb 49 hb (yb 50 hb (yt (sp 62 [z5,z4,(55,bb (!v4.User))]) [z9] 1 ?_)))
 rcases cond_sf hh with ⟨hb,hh⟩ | ⟨hb,hh⟩
 · refine cF hb (Aw.skip ?_)
   obtain rfl:=some_some hh
   exact hN5 () _ _ _ hk5 (el [some 0] (rens_sp kr (ri (rp 0 rl_n))) (hq ⟨102,(C_102 v4)⟩ (rens_same (nr_C_102 _)) hs_nil))
 refine cT hb (sy [10] [] (sp 62 [z3]) [] 1 (Aw.ret ?_))
 obtain rfl:=some_some hh
 refine hR5 _ _ _ ?_
 rw [some_some hk5]
 exact gvi
end Go.Proofs.Ytbanbjdcgdmkaaa
