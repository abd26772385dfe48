/- Plain functions of the program, and that it hands back what they say. Made by program. -/
import Derived.Test.YtlikfpmbcdlnjaaWT
import Derived.Test.YtlikfpmbcdlnjaaProg
namespace Go.Proofs.Ytlikfpmbcdlnjaa
open Go.RowKit
set_option maxRecDepth 100000
set_option linter.all false
set_option maxHeartbeats 0
def Lf61_r0:List LOper:=[oF 4]
def Lf61_r1:List LOper:=[om 6 0,oH 7 6,om 8 1,oH 9 8,oB 10 .neq 7 9]
def Lf61_r2:List LOper:=[oF 4]
def Lf61_r3:List LOper:=[oN 5 0]
def Lf61_r4:List LOper:=[om 11 5,om 12 0,oH 13 12,oB 14 .lss 11 13]
def Lf61_r5:List LOper:=[om 17 0,om 18 5,oi 19 1 17 18,ol 20 19,om 21 1,om 22 5,oi 23 1 21 22,ol 24 23,oB 25 .neq 20 24]
def Lf61_r6:List LOper:=[oF 4]
def Lf61_r7:List LOper:=[om 15 5,ob 16 .add 15 1,om 5 16]
def Lf61_l8:LCode:=(.seq (.seq (.reg false Lf61_r4) (.cond (.t 14) .skip (.exit 0))) (.seq (.block 1 (.seq (.reg true Lf61_r5) (.cond (.t 25) (.seq (.reg false Lf61_r6) .ret) .skip))) (.reg false Lf61_r7)))
def Lf61_r9:List LOper:=[oT 4]
def Lf61:LFun:=⟨26,[(.tmp 4)],(.seq (.reg false Lf61_r0) (.seq (.seq (.reg false Lf61_r1) (.cond (.t 10) (.seq (.reg false Lf61_r2) .ret) .skip)) (.seq (.seq (.reg false Lf61_r3) (.block 0 (.loop Lf61_l8))) (.seq (.reg false Lf61_r9) .ret))))⟩
theorem low_laws_sameInts:lowFun Go.Proofs.Try.prog 61=some Lf61:=by kernel_rfl
noncomputable def F_laws_sameInts_j1  (s1:Unit):Option Bool :=
 some true
noncomputable def F_laws_sameInts_l2 (x_a:List Int) (x_b:List Int) (s2:Int):Option (LO Int (JO Unit Bool)) :=
 cond (decide (s2<(((List.length x_a):Nat):Int)))
  (grd ((0:Int)≤s2∧s2<((List.length x_a:Nat):Int)) (grd ((0:Int)≤s2∧s2<((List.length x_b:Nat):Int)) (cond (!decide ((List.getD x_a (Int.toNat s2) default)=(List.getD x_b (Int.toNat s2) default)))
   (some (.ret (.out false)))
   (some (.next (w64 (s2+(1:Int))))))))
  (some (.ret (.go ())))
noncomputable def F_laws_sameInts (x_a:List Int) (x_b:List Int):Option Bool :=
 cond (!decide ((((List.length x_a):Nat):Int)=(((List.length x_b):Nat):Int)))
  (some false)
  (Option.bind (Option.bind (iter (F_laws_sameInts_l2 x_a x_b) (0:Int)) LO.val) fun j1 =>
   JO.run j1 (F_laws_sameInts_j1))
theorem laws_sameInts_fn {x_a:List Int} {x_b:List Int} {R_:Bool} (hh:F_laws_sameInts x_a x_b=some R_):Fn Try.prog 61 [bo (eI .i64) x_a,bo (eI .i64) x_b] (.bool R_):=by
 let z3:=(0,bo (eI .i64) x_a); let z4:=(1,bo (eI .i64) x_b)
 unfold F_laws_sameInts at hh
 refine Fn.start low_laws_sameInts [0,1] (E:=sp 26 [z3,z4]) kr (v:=bb R_) (Hr:=[]) (k:=0) kr (sy [0,1] [] (sp 26 [z3,z4]) [] 0 (Aw.seq (sy [0,1,10] [] (sp 26 [z3,z4,(10,bb (!decide ((((List.length x_a):Nat):Int)=(((List.length x_b):Nat):Int))))]) [] 0 ?_)))
 rcases cond_some hh with ⟨hb,hh⟩ | ⟨hb,hh⟩
 · exact cT hb (sy [4] [] (sp 26 [(4,bb false)]) [] 0 (Aw.ret (then_r (gvbs hh))))
 refine cF hb (Aw.xskip (fun _ _ _ hq=>then_m hq) ?_)
 obtain ⟨j1,hh,hk1⟩:=bind_some hh
 refine Aw.join (S:=Unit) (fun s1=>sp 26 []) (fun s1=>[]) 0 (fun s1=>F_laws_sameInts_j1 s1=some R_) ?_ ?_
 · intro s1 hh
   unfold F_laws_sameInts_j1 at hh
   exact sy [4] [] (sp 26 [(4,bb true)]) [] 0 (Aw.ret (gvbs hh))
 intro Q1 hN1 hR1 hE1
 refine sy [0,1,5] [] (sp 26 [z3,z4,(5,ii 0)]) [] 0 (Aw.block ?_)
 obtain ⟨o2,hi2,hk2⟩:=bind_some hh
 refine Aw.iter (fun (s2:Int)=>sp 26 [(0,bo (eI .i64) x_a),(1,bo (eI .i64) x_b),(5,ii s2)]) (fun (s2:Int)=>[]) 0 hi2 (el [] (rens_sp kr (ro nr_eI (ro nr_eI (ri rl_n)))) hs_nil) ?_
 intro s2 u2 Q2 hh hN2 hX2 hR2
 let z5:=(14,bb (decide (s2<(((List.length x_a):Nat):Int)))); let z1:=List.getD x_a (Int.toNat s2) default; let z2:=List.getD x_b (Int.toNat s2) default
 unfold F_laws_sameInts_l2 at hh
 refine Aw.seq (sy [0,1,5,14] [] (sp 26 [z3,z4,(5,ii s2),z5]) [] 0 ?_)
 rcases cond_sf hh with ⟨hb,hh⟩ | ⟨hb,hh⟩
 · refine cF hb (Aw.exit (then_x (hX2 _ _ _ _ _ (some_some hh) ?_)))
   intro hout
   rw [hout] at hk2
   refine blk_x ?_
   obtain rfl:=some_some hk2
   exact hN1 () _ _ _ hk1 (el [] (rens_sp kr rl_n) hs_nil)
 refine cT hb (Aw.xskip (fun _ _ _ hq=>then_m hq) (Aw.seq (Aw.block (Aw.sregq [0,1,5,25] (qc (cs:=[]) (E':=(sp 26 [z3,z4,(5,ii s2),z5,(17,bo (eI .i64) x_a),(18,ii s2)])) (pre:=(List.take 2 Lf61_r5)) (L':=(List.drop 2 Lf61_r5)) kr (fun K=>by kernel_rfl) .nil ?_)))))
 obtain ⟨hg47,hh⟩:=grd_some hh
 refine qs (.iadr 1 (.t 17) (.t 18)) (some 19) (yq_q rfl (op_iadr (kd:=.i64) (c:=(eI .i64)) (xs:=x_a) len_eI dd kr kr hg47 ?_))
 refine qs (.load false 1 (.t 19)) (some 20) (yq_q rfl (op_loadb (c:=(eI .i64)) (xs:=x_a) (o:=Int.toNat s2*1) (i:=(Int.toNat s2)) (off:=0) (v:=ii z1) len_eI kr ltn ltn dd kr ?_))
 refine qc (cs:=[]) (E':=(sp 26 [z3,z4,(5,ii s2),z5,(17,bo (eI .i64) x_a),(18,ii s2),(19,.bptr (fl (eI .i64) x_a) (Int.toNat s2*1)),(20,ii z1),(21,bo (eI .i64) x_b),(22,ii s2)])) (pre:=(List.take 2 (List.drop 4 Lf61_r5))) (L':=(List.drop 6 Lf61_r5)) kr (fun K=>by kernel_rfl) .nil ?_
 obtain ⟨hg48,hh⟩:=grd_some hh
 refine qs (.iadr 1 (.t 21) (.t 22)) (some 23) (yq_q rfl (op_iadr (kd:=.i64) (c:=(eI .i64)) (xs:=x_b) len_eI dd kr kr hg48 ?_))
 refine qs (.load false 1 (.t 23)) (some 24) (yq_q rfl (op_loadb (c:=(eI .i64)) (xs:=x_b) (o:=Int.toNat s2*1) (i:=(Int.toNat s2)) (off:=0) (v:=ii z2) len_eI kr ltn ltn dd kr ?_))
 refine qct (cs:=[]) (E':=(sp 26 [z3,z4,(5,ii s2),(25,bb (!decide (z1=z2)))])) (fun K=>by kernel_rfl) .nil ?_
 rcases cond_some hh with ⟨hb,hh⟩ | ⟨hb,hh⟩
 · refine cT hb (sy [4] [] (sp 26 [(4,bb false)]) [] 0 (Aw.ret (blk_r (then_r ?_))))
   refine hR2 _ _ _ _ (some_some hh) ?_
   intro hout
   rw [hout] at hk2
   refine blk_r ?_
   obtain rfl:=some_some hk2
   refine hR1 _ _ _ ?_
   rw [some_some hk1]
   exact gvb
 exact cF hb (Aw.xskip (fun _ _ _ hq=>blk_m (then_m hq)) (Aw.oreg (ye (sp 26 [z3,z4,(5,ii (w64 (s2+(1:Int)))),(15,ii s2),(16,ii (w64 (s2+(1:Int)))),(25,bb (!decide (z1=z2)))]) [] 0 (hN2 (w64 (s2+(1:Int))) _ _ _ (some_some hh) (el [] (rens_sp kr (ro nr_eI (ro nr_eI (ri rl_n)))) hs_nil)))))
def Lf58_r0:List LOper:=[oX 2 28 0,oX 3 28 1,oF 4]
def Lf58_r1:List LOper:=[oA 5 0 2,ol 6 5,oA 7 0 3,ol 8 7,oK 9 61 [6,8],oU 10 9,om 11 10,og 12 (.fadr 1 (.t 2)) 11 false,og 13 (.load false 1 (.t 12)) 11 false,og 14 (.fadr 1 (.t 3)) 11 false,og 15 (.load false 1 (.t 14)) 11 false,og 16 (.bin .neq (.t 13) (.t 15)) 11 false,oQ 17 11 16,om 18 17,og 19 (.fadr 2 (.t 2)) 18 false,og 20 (.load false 1 (.t 19)) 18 false,og 21 (.fadr 2 (.t 3)) 18 false,og 22 (.load false 1 (.t 21)) 18 false,og 23 (.bin .neq (.t 20) (.t 22)) 18 false,oQ 24 18 23,om 25 24,og 26 (.fadr 3 (.t 2)) 25 false,og 27 (.load false 1 (.t 26)) 25 false,og 28 (.fadr 3 (.t 3)) 25 false,og 29 (.load false 1 (.t 28)) 25 false,og 30 (.bin .neq (.t 27) (.t 29)) 25 false,oQ 31 25 30,om 32 31,og 33 (.fadr 4 (.t 2)) 32 false,og 34 (.load false 1 (.t 33)) 32 false,og 35 (.fadr 4 (.t 3)) 32 false,og 36 (.load false 1 (.t 35)) 32 false,og 37 (.bin .neq (.t 34) (.t 36)) 32 false,oQ 38 32 37,om 39 38,og 40 (.fadr 5 (.t 2)) 39 false,og 41 (.load false 1 (.t 40)) 39 false,og 42 (.fadr 5 (.t 3)) 39 false,og 43 (.load false 1 (.t 42)) 39 false,og 44 (.binb true (.t 41) (.t 43)) 39 false,oQ 45 39 44]
def Lf58_r2:List LOper:=[oF 4]
def Lf58_r3:List LOper:=[oA 46 6 2,ol 47 46,oA 48 6 3,ol 49 48,oB 50 .eql 47 49,om 51 50,og 52 (.fadr 7 (.t 2)) 51 true,og 53 (.load false 1 (.t 52)) 51 true,og 54 (.fadr 7 (.t 3)) 51 true,og 55 (.load false 1 (.t 54)) 51 true,og 56 (.bin .eql (.t 53) (.t 55)) 51 true,oP 57 51 56,om 58 57,og 59 (.fadr 8 (.t 2)) 58 true,og 60 (.load false 1 (.t 59)) 58 true,og 61 (.fadr 8 (.t 3)) 58 true,og 62 (.load false 1 (.t 61)) 58 true,og 63 (.bin .eql (.t 60) (.t 62)) 58 true,oP 64 58 63,om 65 64,og 66 (.fadr 9 (.t 2)) 65 true,og 67 (.load false 1 (.t 66)) 65 true,og 68 (.fadr 9 (.t 3)) 65 true,og 69 (.load false 1 (.t 68)) 65 true,og 70 (.binb false (.t 67) (.t 69)) 65 true,oP 71 65 70,om 72 71,og 73 (.fadr 10 (.t 2)) 72 true,og 74 (.load false 1 (.t 73)) 72 true,og 75 (.fadr 10 (.t 3)) 72 true,og 76 (.load false 1 (.t 75)) 72 true,og 77 (.binb false (.t 74) (.t 76)) 72 true,oP 78 72 77,om 79 78,og 80 (.fadr 11 (.t 2)) 79 true,og 81 (.load false 1 (.t 80)) 79 true,og 82 (.fadr 11 (.t 3)) 79 true,og 83 (.load false 1 (.t 82)) 79 true,og 84 (.binb false (.t 81) (.t 83)) 79 true,oP 85 79 84,om 86 85,og 87 (.fadr 12 (.t 2)) 86 true,og 88 (.load false 1 (.t 87)) 86 true,og 89 (.fadr 12 (.t 3)) 86 true,og 90 (.load false 1 (.t 89)) 86 true,og 91 (.binb false (.t 88) (.t 90)) 86 true,oP 92 86 91,om 4 92]
def Lf58:LFun:=⟨93,[(.tmp 4)],(.seq (.reg false Lf58_r0) (.seq (.seq (.reg false Lf58_r1) (.cond (.t 45) (.seq (.reg false Lf58_r2) .ret) .skip)) (.seq (.reg false Lf58_r3) .ret)))⟩
theorem low_laws_sameCore:lowFun Go.Proofs.Try.prog 58=some Lf58:=by kernel_rfl
noncomputable def F_laws_sameCore (x_a:DCore) (x_b:DCore):Option Bool :=
 Option.bind (F_laws_sameInts x_a.Regs x_b.Regs) fun v1 =>
 cond (!v1)
  (some false)
  (cond (!decide (x_a.Pc=x_b.Pc))
   (some false)
   (cond (!decide (x_a.Root=x_b.Root))
    (some false)
    (cond (!decide (x_a.Vector=x_b.Vector))
     (some false)
     (cond (!decide (x_a.Saved=x_b.Saved))
      (some false)
      (cond (!(x_a.SavedUser == x_b.SavedUser))
       (some false)
       (cond (decide (x_a.Cause=x_b.Cause))
        (cond (decide (x_a.Bad=x_b.Bad))
         (cond (decide (x_a.Timer=x_b.Timer))
          (cond (x_a.Waits == x_b.Waits)
           (cond (x_a.User == x_b.User)
            (cond (x_a.On == x_b.On)
             (some (x_a.Stopped == x_b.Stopped))
             (some false))
            (some false))
           (some false))
          (some false))
         (some false))
        (some false)))))))
theorem laws_sameCore_fn {x_a:DCore} {x_b:DCore} {R_:Bool} (hh:F_laws_sameCore x_a x_b=some R_):Fn Try.prog 58 [.agg (B_28 x_a),.agg (B_28 x_b)] (.bool R_):=by
 let z1:EH:=(0,some ⟨28,(B_28 x_a)⟩); let z2:EH:=(1,some ⟨28,(B_28 x_b)⟩); let z3:=(2,pp 0); let z4:=(3,pp 1); let z5:=(4,bb false); let z6:=(45,bb (!(x_a.SavedUser == x_b.SavedUser))); let z7:=(45,bb true)
 unfold F_laws_sameCore at hh
 refine Fn.start low_laws_sameCore [0,1] (E:=sp 93 [(0,.agg (B_28 x_a)),(1,.agg (B_28 x_b))]) kr (v:=bb R_) (Hr:=[]) (k:=0) kr (sy [2,3] [0,1] (sp 93 [z3,z4]) [z1,z2] 2 (Aw.seq (Aw.sreg [2,3,45] [0,1] (yj 4  (sp 93 [z3,z4,(5,pp 0),(6,bo (eI .i64) x_a.Regs),(7,pp 1),(8,bo (eI .i64) x_b.Regs)]) [z1,z2] 2 ?_))))
 obtain ⟨v1,hv1,hh⟩:=bind_some hh
 refine ys (.call 61 [(.t 6),(.t 8)]) (some 9) (oc (laws_sameInts_fn hv1) ?_)
 refine yu 2 [(9,bb v1),(10,bb (!v1)),(11,bb (!v1))] [z1,z2] 2 ?_
 rcases cond_some hh with ⟨hb,hh⟩ | ⟨hb,hh⟩
 · exact yb 10 hb (yb 11 hb (yt (sp 93 [z3,z4,z7]) [z1,z2] 2 (cT rfl (sy [4] [] (sp 93 [z5]) [] 2 (Aw.ret (then_r (gvbs hh)))))))
 refine yb 10 hb (yb 11 hb (yu 7 [(10,bb false),(11,bb false),(12,.ptr 0 [] 1),(13,ii x_a.Pc),(14,.ptr 1 [] 1),(15,ii x_b.Pc),(16,bb (!decide (x_a.Pc=x_b.Pc))),(17,bb (!decide (x_a.Pc=x_b.Pc))),(18,bb (!decide (x_a.Pc=x_b.Pc)))] [z1,z2] 2 ?_))
 rcases cond_some hh with ⟨hb,hh⟩ | ⟨hb,hh⟩
 · exact yb 16 hb (yb 17 hb (yb 18 hb (yt (sp 93 [z3,z4,z7]) [z1,z2] 2 (cT rfl (sy [4] [] (sp 93 [z5]) [] 2 (Aw.ret (then_r (gvbs hh))))))))
 refine yb 16 hb (yb 17 hb (yb 18 hb (yu 7 [(16,bb false),(17,bb false),(18,bb false),(19,.ptr 0 [] 2),(20,ii x_a.Root),(21,.ptr 1 [] 2),(22,ii x_b.Root),(23,bb (!decide (x_a.Root=x_b.Root))),(24,bb (!decide (x_a.Root=x_b.Root))),(25,bb (!decide (x_a.Root=x_b.Root)))] [z1,z2] 2 ?_)))
 rcases cond_some hh with ⟨hb,hh⟩ | ⟨hb,hh⟩
 · exact yb 23 hb (yb 24 hb (yb 25 hb (yt (sp 93 [z3,z4,z7]) [z1,z2] 2 (cT rfl (sy [4] [] (sp 93 [z5]) [] 2 (Aw.ret (then_r (gvbs hh))))))))
 refine yb 23 hb (yb 24 hb (yb 25 hb (yu 7 [(23,bb false),(24,bb false),(25,bb false),(26,.ptr 0 [] 3),(27,ii x_a.Vector),(28,.ptr 1 [] 3),(29,ii x_b.Vector),(30,bb (!decide (x_a.Vector=x_b.Vector))),(31,bb (!decide (x_a.Vector=x_b.Vector))),(32,bb (!decide (x_a.Vector=x_b.Vector)))] [z1,z2] 2 ?_)))
 rcases cond_some hh with ⟨hb,hh⟩ | ⟨hb,hh⟩
 · exact yb 30 hb (yb 31 hb (yb 32 hb (yt (sp 93 [z3,z4,z7]) [z1,z2] 2 (cT rfl (sy [4] [] (sp 93 [z5]) [] 2 (Aw.ret (then_r (gvbs hh))))))))
 refine yb 30 hb (yb 31 hb (yb 32 hb (yu 7 [(30,bb false),(31,bb false),(32,bb false),(33,.ptr 0 [] 4),(34,ii x_a.Saved),(35,.ptr 1 [] 4),(36,ii x_b.Saved),(37,bb (!decide (x_a.Saved=x_b.Saved))),(38,bb (!decide (x_a.Saved=x_b.Saved))),(39,bb (!decide (x_a.Saved=x_b.Saved)))] [z1,z2] 2 ?_)))
 rcases cond_some hh with ⟨hb,hh⟩ | ⟨hb,hh⟩
 · exact yb 37 hb (yb 38 hb (yb 39 hb (yt (sp 93 [z3,z4,z7]) [z1,z2] 2 (cT rfl (sy [4] [] (sp 93 [z5]) [] 2 (Aw.ret (then_r (gvbs hh))))))))
 refine yb 37 hb (yb 38 hb (yb 39 hb (yt (sp 93 [z3,z4,z6]) [z1,z2] 2 ?_)))
 rcases cond_some hh with ⟨hb,hh⟩ | ⟨hb,hh⟩
 · exact cT hb (sy [4] [] (sp 93 [z5]) [] 2 (Aw.ret (then_r (gvbs hh))))
 refine cF hb (Aw.xskip (fun _ _ _ hq=>then_m hq) (Aw.sreg [4] [] (yj 6  (sp 93 [z3,z4,z6,(46,.ptr 0 [] 6),(47,ii x_a.Cause),(48,.ptr 1 [] 6),(49,ii x_b.Cause),(50,bb (decide (x_a.Cause=x_b.Cause))),(51,bb (decide (x_a.Cause=x_b.Cause)))]) [z1,z2] 2 ?_)))
 rcases cond_sf hh with ⟨hb,hh⟩ | ⟨hb,hh⟩
 · exact yb 50 hb (yb 51 hb (yt (sp 93 [z5]) [] 2 (Aw.ret (gvbs hh))))
 refine yb 50 hb (yb 51 hb (yu 7 [(50,bb true),(51,bb true),(52,.ptr 0 [] 7),(53,ii x_a.Bad),(54,.ptr 1 [] 7),(55,ii x_b.Bad),(56,bb (decide (x_a.Bad=x_b.Bad))),(57,bb (decide (x_a.Bad=x_b.Bad))),(58,bb (decide (x_a.Bad=x_b.Bad)))] [z1,z2] 2 ?_))
 rcases cond_sf hh with ⟨hb,hh⟩ | ⟨hb,hh⟩
 · exact yb 56 hb (yb 57 hb (yb 58 hb (yt (sp 93 [z5]) [] 2 (Aw.ret (gvbs hh)))))
 refine yb 56 hb (yb 57 hb (yb 58 hb (yu 7 [(56,bb true),(57,bb true),(58,bb true),(59,.ptr 0 [] 8),(60,ii x_a.Timer),(61,.ptr 1 [] 8),(62,ii x_b.Timer),(63,bb (decide (x_a.Timer=x_b.Timer))),(64,bb (decide (x_a.Timer=x_b.Timer))),(65,bb (decide (x_a.Timer=x_b.Timer)))] [z1,z2] 2 ?_)))
 rcases cond_sf hh with ⟨hb,hh⟩ | ⟨hb,hh⟩
 · exact yb 63 hb (yb 64 hb (yb 65 hb (yt (sp 93 [z5]) [] 2 (Aw.ret (gvbs hh)))))
 refine yb 63 hb (yb 64 hb (yb 65 hb (yu 7 [(63,bb true),(64,bb true),(65,bb true),(66,.ptr 0 [] 9),(67,bb x_a.Waits),(68,.ptr 1 [] 9),(69,bb x_b.Waits),(70,bb (x_a.Waits == x_b.Waits)),(71,bb (x_a.Waits == x_b.Waits)),(72,bb (x_a.Waits == x_b.Waits))] [z1,z2] 2 ?_)))
 rcases cond_sf hh with ⟨hb,hh⟩ | ⟨hb,hh⟩
 · exact yb 70 hb (yb 71 hb (yb 72 hb (yt (sp 93 [z5]) [] 2 (Aw.ret (gvbs hh)))))
 refine yb 70 hb (yb 71 hb (yb 72 hb (yu 7 [(70,bb true),(71,bb true),(72,bb true),(73,.ptr 0 [] 10),(74,bb x_a.User),(75,.ptr 1 [] 10),(76,bb x_b.User),(77,bb (x_a.User == x_b.User)),(78,bb (x_a.User == x_b.User)),(79,bb (x_a.User == x_b.User))] [z1,z2] 2 ?_)))
 rcases cond_sf hh with ⟨hb,hh⟩ | ⟨hb,hh⟩
 · exact yb 77 hb (yb 78 hb (yb 79 hb (yt (sp 93 [z5]) [] 2 (Aw.ret (gvbs hh)))))
 refine yb 77 hb (yb 78 hb (yb 79 hb (yu 7 [(77,bb true),(78,bb true),(79,bb true),(80,.ptr 0 [] 11),(81,bb x_a.On),(82,.ptr 1 [] 11),(83,bb x_b.On),(84,bb (x_a.On == x_b.On)),(85,bb (x_a.On == x_b.On)),(86,bb (x_a.On == x_b.On))] [z1,z2] 2 ?_)))
 rcases cond_sf hh with ⟨hb,hh⟩ | ⟨hb,hh⟩
 · exact yb 84 hb (yb 85 hb (yb 86 hb (yt (sp 93 [z5]) [] 2 (Aw.ret (gvbs hh)))))
 exact yb 84 hb (yb 85 hb (yb 86 hb (yt (sp 93 [(4,bb (x_a.Stopped == x_b.Stopped))]) [] 2 (Aw.ret (gvbs hh)))))
def Lf24_r0:List LOper:=[oX 2 30 0,oX 3 30 1,oF 4]
def Lf24_r1:List LOper:=[oA 5 0 2,oL 6 13 5,oA 7 0 3,oL 8 13 7,oK 9 58 [6,8],om 10 9,og 11 (.fadr 13 (.t 2)) 10 true,og 12 (.load false 1 (.t 11)) 10 true,og 13 (.fadr 13 (.t 3)) 10 true,og 14 (.load false 1 (.t 13)) 10 true,og 15 (.call 61 [(.t 12),(.t 14)]) 10 true,oP 16 10 15,om 17 16,og 18 (.fadr 14 (.t 2)) 17 true,og 19 (.load false 1 (.t 18)) 17 true,og 20 (.fadr 14 (.t 3)) 17 true,og 21 (.load false 1 (.t 20)) 17 true,og 22 (.call 61 [(.t 19),(.t 21)]) 17 true,oP 23 17 22,om 24 23,og 25 (.fadr 15 (.t 2)) 24 true,og 26 (.load false 1 (.t 25)) 24 true,og 27 (.fadr 15 (.t 3)) 24 true,og 28 (.load false 1 (.t 27)) 24 true,og 29 (.call 61 [(.t 26),(.t 28)]) 24 true,oP 30 24 29,om 4 30]
def Lf24:LFun:=⟨31,[(.tmp 4)],(.seq (.reg false Lf24_r0) (.seq (.reg false Lf24_r1) .ret))⟩
theorem low_laws_sameBare:lowFun Go.Proofs.Try.prog 24=some Lf24:=by kernel_rfl
noncomputable def F_laws_sameBare (x_a:DBare) (x_b:DBare):Option Bool :=
 Option.bind (F_laws_sameCore x_a.C x_b.C) fun v1 =>
 cond v1
  (Option.bind (F_laws_sameInts x_a.Mem x_b.Mem) fun v2 =>
  cond v2
   (Option.bind (F_laws_sameInts x_a.In x_b.In) fun v3 =>
   cond v3
    (Option.bind (F_laws_sameInts x_a.Out x_b.Out) fun v4 =>
    some v4)
    (some false))
   (some false))
  (some false)
theorem laws_sameBare_fn {x_a:DBare} {x_b:DBare} {R_:Bool} (hh:F_laws_sameBare x_a x_b=some R_):Fn Try.prog 24 [.agg (B_30 x_a),.agg (B_30 x_b)] (.bool R_):=by
 let z1:EH:=(0,some ⟨30,(B_30 x_a)⟩); let z2:EH:=(1,some ⟨30,(B_30 x_b)⟩)
 unfold F_laws_sameBare at hh
 refine Fn.start low_laws_sameBare [0,1] (E:=sp 31 [(0,.agg (B_30 x_a)),(1,.agg (B_30 x_b))]) kr (v:=bb R_) (Hr:=[]) (k:=0) kr (sy [2,3] [0,1] (sp 31 [(2,pp 0),(3,pp 1)]) [z1,z2] 2 (Aw.sreg [4] [] (yu 4 [(5,pp 0),(6,.agg (B_28 x_a.C)),(7,pp 1),(8,.agg (B_28 x_b.C))] [z1,z2] 2 ?_)))
 obtain ⟨v1,hv1,hh⟩:=bind_some hh
 refine ys (.call 58 [(.t 6),(.t 8)]) (some 9) (op_call (r:=bb v1) (v:=bb v1) (Hr:=[]) (n':=2) (laws_sameCore_fn hv1) (clz_v (vs:=[.agg (B_28 x_a.C),.agg (B_28 x_b.C)]) kr (clz_c (clo_same (clean_agg (cl_B_28 _))) (clz_c (clo_same (clean_agg (cl_B_28 _))) clz_n))) rfl rfl kr ?_)
 refine yu 1 [(9,bb v1),(10,bb v1)] [z1,z2] 2 ?_
 rcases cond_sf hh with ⟨hb,hh⟩ | ⟨hb,hh⟩
 · exact yb 9 hb (yb 10 hb (yt (sp 31 [(4,bb false)]) [] 2 (Aw.ret (gvbs hh))))
 refine yb 9 hb (yb 10 hb (yu 4 [(9,bb true),(10,bb true),(11,.ptr 0 [] 13),(12,bo (eI .i64) x_a.Mem),(13,.ptr 1 [] 13),(14,bo (eI .i64) x_b.Mem)] [z1,z2] 2 ?_))
 obtain ⟨v2,hv2,hh⟩:=bind_some hh
 refine yg (.call 61 [(.t 12),(.t 14)]) (some 15) 10 true (oc (laws_sameInts_fn hv2) ?_)
 refine yu 2 [(15,bb v2),(16,bb v2),(17,bb v2)] [z1,z2] 2 ?_
 rcases cond_sf hh with ⟨hb,hh⟩ | ⟨hb,hh⟩
 · exact yb 15 hb (yb 16 hb (yb 17 hb (yt (sp 31 [(4,bb false)]) [] 2 (Aw.ret (gvbs hh)))))
 refine yb 15 hb (yb 16 hb (yb 17 hb (yu 4 [(15,bb true),(16,bb true),(17,bb true),(18,.ptr 0 [] 14),(19,bo (eI .i64) x_a.In),(20,.ptr 1 [] 14),(21,bo (eI .i64) x_b.In)] [z1,z2] 2 ?_)))
 obtain ⟨v3,hv3,hh⟩:=bind_some hh
 refine yg (.call 61 [(.t 19),(.t 21)]) (some 22) 17 true (oc (laws_sameInts_fn hv3) ?_)
 refine yu 2 [(22,bb v3),(23,bb v3),(24,bb v3)] [z1,z2] 2 ?_
 rcases cond_sf hh with ⟨hb,hh⟩ | ⟨hb,hh⟩
 · exact yb 22 hb (yb 23 hb (yb 24 hb (yt (sp 31 [(4,bb false)]) [] 2 (Aw.ret (gvbs hh)))))
 refine yb 22 hb (yb 23 hb (yb 24 hb (yu 4 [(22,bb true),(23,bb true),(24,bb true),(25,.ptr 0 [] 15),(26,bo (eI .i64) x_a.Out),(27,.ptr 1 [] 15),(28,bo (eI .i64) x_b.Out)] [z1,z2] 2 ?_)))
 obtain ⟨v4,hv4,hh⟩:=bind_some hh
 refine yg (.call 61 [(.t 26),(.t 28)]) (some 29) 24 true (oc (laws_sameInts_fn hv4) ?_)
 exact yt (sp 31 [(4,bb v4)]) [] 2 (Aw.ret (gvbs hh))
end Go.Proofs.Ytlikfpmbcdlnjaa
