/- Plain functions of the program, and that it hands back what they say. Made by program. -/
import Derived.Test.YtbanbjdcgdmkaaaWT
import Derived.Test.YtbanbjdcgdmkaaaProg
import Derived.Test.YtbanbjdcgdmkaaaWH1
namespace Go.Proofs.Ytbanbjdcgdmkaaa
open Go.RowKit
set_option maxRecDepth 100000
set_option linter.all false
set_option maxHeartbeats 0
theorem low_laws_toBare:LW 36 ⟨21,[(.cell 2 true 16)],(.seq (.reg false (rg 36 0)) (.seq (.reg false (rg 36 1)) (.seq (.reg false (rg 36 2)) (.seq (.reg false (rg 36 3)) (.seq (.reg false (rg 36 4)) (.seq (.reg false (rg 36 5)) (.seq (.reg false (rg 36 6)) .ret)))))))⟩:=kr
noncomputable def F_laws_toBare (x_a:DBare):Option DBare :=
 Option.bind (F_laws_toCore x_a.C) fun v1 =>
 Option.bind (F_laws_toIntS x_a.Mem) fun v2 =>
 Option.bind (F_laws_toIntS x_a.In) fun v3 =>
 Option.bind (F_laws_toIntS x_a.Out) fun v4 =>
 some (DBare.mk v1 v2 v3 v4)
theorem laws_toBare_fn {x_a:DBare} {R_:DBare} (hh:F_laws_toBare x_a=some R_):Fn Try.prog 36 [.agg (B_27 x_a)] (.agg (.own 3 1 (List.length R_.C.Regs) (fl (eI .i64) R_.C.Regs)::ru25 R_.C [.own 3 1 (List.length R_.Mem) (fl (eI .i64) R_.Mem),.own 3 1 (List.length R_.In) (fl (eI .i64) R_.In),.own 3 1 (List.length R_.Out) (fl (eI .i64) R_.Out)])):=by
 let z1:EH:=(0,some (rB27_67 x_a)); let z2:=(2,pp 1)
 unfold F_laws_toBare at hh
 refine Fn.start low_laws_toBare [0] (E:=sp 21 [(0,.agg (B_27 x_a))]) kr (v:=.agg (sw 0 R_.C.Regs::ru25 R_.C [sw 1 R_.Mem,sw 2 R_.In,sw 3 R_.Out])) (Hr:=[(3,some (rI_3 R_.Out)),(2,some (rI_3 R_.In)),(1,some (rI_3 R_.Mem)),(0,some (rI_3 R_.C.Regs))]) (k:=4) kr (Aw.sreg [1,2] [0,1] ?_)
 let q1:Root:=⟨27,(.nil::zru25 [.nil,.nil,.nil])⟩; let z3:=(1,some q1)
 refine yt (sp 21 [(1,pp 0),z2]) [z1,z3] 2 (sy [1,2,3] [0,1,2] (sp 21 [(1,pp 0),z2,(3,pp 2)]) [z1,z3,(2,some q1)] 3 (Aw.sreg [1,2,3] [0,1,2,3] (yu 2 [(4,pp 0),(5,.agg (B_25 x_a.C))] [z1,z3,(2,some q1)] 3 ?_)))
 obtain ⟨v1,hv1,hh⟩:=bind_some hh
 let q2:Root:=(rI_3 v1.Regs); let z4:=(3,some q2)
 refine ys (.call 100 [(.t 5)]) (some 6) (op_call (r:=.agg (.own 3 1 (List.length v1.Regs) (fl (eI .i64) v1.Regs)::ru25 v1 [])) (v:=.agg (sw 3 v1.Regs::ru25 v1 [])) (Hr:=[z4]) (n':=4) (laws_toCore_fn hv1) (clz_v (vs:=[.agg (B_25 x_a.C)]) kr (clz_c (clo_same (clean_agg (cl_B_25 _))) clz_n)) nrr nrr kr ?_)
 let q3:Root:=⟨27,(sw 3 v1.Regs::ru25 v1 [.nil,.nil,.nil])⟩
 refine yt (sp 21 [(1,pp 0),z2,(3,pp 2)]) [z1,z3,(2,some q3),z4] 4 (Aw.sreg [1,2,3] [0,1,2,3,4] (yu 2 [(8,.ptr 0 [] 13),(9,bo (eI .i64) x_a.Mem)] [z1,z3,(2,some q3),z4] 4 ?_))
 obtain ⟨v2,hv2,hh⟩:=bind_some hh
 let z5:EH:=(4,some (rI_3 v2))
 refine ys (.call 101 [(.t 9)]) (some 10) (op_call (r:=.own 3 1 (List.length v2) (fl (eI .i64) v2)) (v:=sw 4 v2) (Hr:=[z5]) (n':=5) (laws_toIntS_fn hv2) (clz_v (vs:=[bo (eI .i64) x_a.Mem]) kr (clz_c (clo_same (clean_bor (cleans_fl cl_eI))) clz_n)) nrr nrr kr ?_)
 let q4:Root:=⟨27,(sw 3 v1.Regs::ru25 v1 [sw 4 v2,.nil,.nil])⟩
 refine yt (sp 21 [(1,pp 0),z2,(3,pp 2)]) [z1,z3,(2,some q4),z4,z5] 5 (Aw.sreg [1,2,3] [0,1,2,3,4,5] (yu 2 [(12,.ptr 0 [] 14),(13,bo (eI .i64) x_a.In)] [z1,z3,(2,some q4),z4,z5] 5 ?_))
 obtain ⟨v3,hv3,hh⟩:=bind_some hh
 let z6:EH:=(5,some (rI_3 v3))
 refine ys (.call 101 [(.t 13)]) (some 14) (op_call (r:=.own 3 1 (List.length v3) (fl (eI .i64) v3)) (v:=sw 5 v3) (Hr:=[z6]) (n':=6) (laws_toIntS_fn hv3) (clz_v (vs:=[bo (eI .i64) x_a.In]) kr (clz_c (clo_same (clean_bor (cleans_fl cl_eI))) clz_n)) nrr nrr kr ?_)
 let q5:Root:=⟨27,(sw 3 v1.Regs::ru25 v1 [sw 4 v2,sw 5 v3,.nil])⟩
 refine yt (sp 21 [(1,pp 0),z2,(3,pp 2)]) [z1,z3,(2,some q5),z4,z5,z6] 6 (Aw.sreg [2,3] [1,2,3,4,5,6] (yu 2 [(16,.ptr 0 [] 15),(17,bo (eI .i64) x_a.Out)] [z1,z3,(2,some q5),z4,z5,z6] 6 ?_))
 obtain ⟨v4,hv4,hh⟩:=bind_some hh
 let z7:EH:=(6,some (rI_3 v4))
 refine ys (.call 101 [(.t 17)]) (some 18) (op_call (r:=.own 3 1 (List.length v4) (fl (eI .i64) v4)) (v:=sw 6 v4) (Hr:=[z7]) (n':=7) (laws_toIntS_fn hv4) (clz_v (vs:=[bo (eI .i64) x_a.Out]) kr (clz_c (clo_same (clean_bor (cleans_fl cl_eI))) clz_n)) nrr nrr kr ?_)
 let q6:Root:=⟨27,(sw 3 v1.Regs::ru25 v1 [sw 4 v2,sw 5 v3,sw 6 v4])⟩
 refine yt (sp 21 [z2,(3,pp 2)]) [z3,(2,some q6),z4,z5,z6,z7] 7 (sy [2] [1,3,4,5,6] (sp 21 [z2]) [(1,some q6),z4,z5,z6,z7] 7 (Aw.ret ?_))
 rw [some_some hh]
 exact gives (r':=.agg (sw 3 v1.Regs::ru25 v1 [sw 4 v2,sw 5 v3,sw 6 v4])) kr (Ent.list [some 3,some 4,some 5,some 6] rfl rfl (Nat.zero_le _) (rens_1 (ren_agg rz)) (hn nr_eI (hn nr_eI (hn nr_eI (hn nr_eI hs_nil)))))
theorem low_laws_eqBare:LW 37 ⟨29,[(.tmp 4)],(.seq (.reg false (rg 37 0)) (.seq (.seq (.reg false (rg 37 1)) (.cond (.t 10) (.seq (.reg false (rg 37 2)) .ret) .skip)) (.seq (.seq (.reg false (rg 37 3)) (.cond (.t 16) (.seq (.reg false (rg 37 4)) .ret) .skip)) (.seq (.seq (.reg false (rg 37 5)) (.cond (.t 22) (.seq (.reg false (rg 37 6)) .ret) .skip)) (.seq (.seq (.reg false (rg 37 7)) (.cond (.t 28) (.seq (.reg false (rg 37 8)) .ret) .skip)) (.seq (.reg false (rg 37 9)) .ret))))))⟩:=kr
noncomputable def F_laws_eqBare (x_a:DBare) (x_b:DBare):Option Bool :=
 Option.bind (F_laws_eqCore x_a.C x_b.C) fun v1 =>
 cond (!v1)
  (some false)
  (Option.bind (F_laws_eqIntS x_a.Mem x_b.Mem) fun v2 =>
  cond (!v2)
   (some false)
   (Option.bind (F_laws_eqIntS x_a.In x_b.In) fun v3 =>
   cond (!v3)
    (some false)
    (Option.bind (F_laws_eqIntS x_a.Out x_b.Out) fun v4 =>
    cond (!v4)
     (some false)
     (some true))))
theorem laws_eqBare_fn {x_a:DBare} {x_b:DBare} {R_:Bool} (hh:F_laws_eqBare x_a x_b=some R_):Fn Try.prog 37 [.agg (B_27 x_a),.agg (B_27 x_b)] (.bool R_):=by
 let z1:EH:=(0,some (rB27 x_a)); let z2:EH:=(1,some (rB27 x_b)); let z3:=(2,pp 0); let z4:=(3,pp 1); let z5:=(4,bb false)
 unfold F_laws_eqBare at hh
 refine Fn.start low_laws_eqBare [0,1] (E:=sp 29 [(0,.agg (B_27 x_a)),(1,.agg (B_27 x_b))]) kr (v:=bb R_) (Hr:=[]) (k:=0) kr (sy [2,3] [0,1] (sp 29 [z3,z4]) [z1,z2] 2 (Aw.seq (Aw.sreg [2,3,10] [0,1] (yj 4  (sp 29 [z3,z4,(5,pp 0),(6,.agg (B_25 x_a.C)),(7,pp 1),(8,.agg (B_25 x_b.C))]) [z1,z2] 2 ?_))))
 obtain ⟨v1,hv1,hh⟩:=bind_some hh
 refine ys (.call 102 [(.t 6),(.t 8)]) (some 9) (op_call (r:=bb v1) (v:=bb v1) (Hr:=[]) (n':=2) (laws_eqCore_fn hv1) (clz_v (vs:=[.agg (B_25 x_a.C),.agg (B_25 x_b.C)]) kr (clz_c (clo_same (clean_agg (cl_B_25 _))) (clz_c (clo_same (clean_agg (cl_B_25 _))) clz_n))) rfl rfl kr ?_)
 refine yt (sp 29 [z3,z4,(10,bb (!v1))]) [z1,z2] 2 ?_
 rcases cond_some hh with ⟨hb,hh⟩ | ⟨hb,hh⟩
 · exact cT hb (sy [4] [] (sp 29 [z5]) [] 2 (Aw.ret (then_r (gvbs hh))))
 refine cF hb (Aw.xskip (fun _ _ _ hq=>then_m hq) (Aw.seq (Aw.sreg [2,3,16] [0,1] (yj 4  (sp 29 [z3,z4,(10,bb (!v1)),(11,.ptr 0 [] 13),(12,bo (eI .i64) x_a.Mem),(13,.ptr 1 [] 13),(14,bo (eI .i64) x_b.Mem)]) [z1,z2] 2 ?_))))
 obtain ⟨v2,hv2,hh⟩:=bind_some hh
 refine ys (.call 103 [(.t 12),(.t 14)]) (some 15) (oc (laws_eqIntS_fn hv2) ?_)
 refine yt (sp 29 [z3,z4,(16,bb (!v2))]) [z1,z2] 2 ?_
 rcases cond_some hh with ⟨hb,hh⟩ | ⟨hb,hh⟩
 · exact cT hb (sy [4] [] (sp 29 [z5]) [] 2 (Aw.ret (then_r (gvbs hh))))
 refine cF hb (Aw.xskip (fun _ _ _ hq=>then_m hq) (Aw.seq (Aw.sreg [2,3,22] [0,1] (yj 4  (sp 29 [z3,z4,(16,bb (!v2)),(17,.ptr 0 [] 14),(18,bo (eI .i64) x_a.In),(19,.ptr 1 [] 14),(20,bo (eI .i64) x_b.In)]) [z1,z2] 2 ?_))))
 obtain ⟨v3,hv3,hh⟩:=bind_some hh
 refine ys (.call 103 [(.t 18),(.t 20)]) (some 21) (oc (laws_eqIntS_fn hv3) ?_)
 refine yt (sp 29 [z3,z4,(22,bb (!v3))]) [z1,z2] 2 ?_
 rcases cond_some hh with ⟨hb,hh⟩ | ⟨hb,hh⟩
 · exact cT hb (sy [4] [] (sp 29 [z5]) [] 2 (Aw.ret (then_r (gvbs hh))))
 refine cF hb (Aw.xskip (fun _ _ _ hq=>then_m hq) (Aw.seq (Aw.sreg [28] [] (yj 4  (sp 29 [z3,z4,(22,bb (!v3)),(23,.ptr 0 [] 15),(24,bo (eI .i64) x_a.Out),(25,.ptr 1 [] 15),(26,bo (eI .i64) x_b.Out)]) [z1,z2] 2 ?_))))
 obtain ⟨v4,hv4,hh⟩:=bind_some hh
 refine ys (.call 103 [(.t 24),(.t 26)]) (some 27) (oc (laws_eqIntS_fn hv4) ?_)
 refine yt (sp 29 [(28,bb (!v4))]) [] 2 ?_
 rcases cond_some hh with ⟨hb,hh⟩ | ⟨hb,hh⟩
 · exact cT hb (sy [4] [] (sp 29 [z5]) [] 2 (Aw.ret (then_r (gvbs hh))))
 exact cF hb (Aw.xskip (fun _ _ _ hq=>then_m hq) (sy [4] [] (sp 29 [(4,bb true)]) [] 2 (Aw.ret (gvbs hh))))
theorem low_laws_szBare:LW 35 ⟨30,[(.tmp 4)],(.seq (.reg false (rg 35 0)) (.seq (.reg false (rg 35 1)) (.seq (.seq (.reg false (rg 35 2)) (.cond (.t 10) (.seq (.reg false (rg 35 3)) .ret) .skip)) (.seq (.reg false (rg 35 4)) (.seq (.seq (.reg false (rg 35 5)) (.cond (.t 16) (.seq (.reg false (rg 35 6)) .ret) .skip)) (.seq (.reg false (rg 35 7)) (.seq (.seq (.reg false (rg 35 8)) (.cond (.t 22) (.seq (.reg false (rg 35 9)) .ret) .skip)) (.seq (.reg false (rg 35 10)) (.seq (.seq (.reg false (rg 35 11)) (.cond (.t 28) (.seq (.reg false (rg 35 12)) .ret) .skip)) (.seq (.reg false (rg 35 13)) .ret))))))))))⟩:=kr
noncomputable def F_laws_szBare (x_a:DBare) (x_left:Int):Option Int :=
 Option.bind (F_laws_szCore x_a.C x_left) fun v1 =>
 cond (decide (v1<(0:Int)))
  (some (-1:Int))
  (Option.bind (F_laws_szIntS x_a.Mem v1) fun v2 =>
  cond (decide (v2<(0:Int)))
   (some (-1:Int))
   (Option.bind (F_laws_szIntS x_a.In v2) fun v3 =>
   cond (decide (v3<(0:Int)))
    (some (-1:Int))
    (Option.bind (F_laws_szIntS x_a.Out v3) fun v4 =>
    cond (decide (v4<(0:Int)))
     (some (-1:Int))
     (some v4))))
theorem laws_szBare_fn {x_a:DBare} {x_left:Int} {R_:Int} (hh:F_laws_szBare x_a x_left=some R_):Fn Try.prog 35 [.agg (B_27 x_a),.int .i64 x_left] (.int .i64 R_):=by
 let z1:EH:=(0,some (rB27_67 x_a)); let z2:=(2,pp 0); let z3:=(4,ii (-1))
 unfold F_laws_szBare at hh
 refine Fn.start low_laws_szBare [0,1] (E:=sp 30 [(0,.agg (B_27 x_a)),(1,ii x_left)]) kr (v:=ii R_) (Hr:=[]) (k:=0) kr (sy [1,2] [0] (sp 30 [(1,ii x_left),z2]) [z1] 1 (Aw.sreg [1,2] [0] (yu 3 [(5,pp 0),(6,.agg (B_25 x_a.C)),(7,ii x_left)] [z1] 1 ?_)))
 obtain ⟨v1,hv1,hh⟩:=bind_some hh
 let z4:=(10,bb (decide (v1<(0:Int))))
 refine ys (.call 98 [(.t 6),(.t 7)]) (some 8) (op_call (r:=ii v1) (v:=ii v1) (Hr:=[]) (n':=1) (laws_szCore_fn hv1) (clz_v (vs:=[.agg (B_25 x_a.C),ii x_left]) kr (clz_c (clo_same (clean_agg (cl_B_25 _))) (cz1 clz_n))) rfl rfl kr ?_)
 refine yt (sp 30 [(1,ii v1),z2]) [z1] 1 (Aw.seq (sy [1,2,10] [0] (sp 30 [(1,ii v1),z2,z4]) [z1] 1 ?_))
 rcases cond_some hh with ⟨hb,hh⟩ | ⟨hb,hh⟩
 · exact cT hb (sy [4] [] (sp 30 [z3]) [] 1 (Aw.ret (then_r (gvis hh))))
 refine cF hb (Aw.xskip (fun _ _ _ hq=>then_m hq) (Aw.sreg [1,2] [0] (yj 3  (sp 30 [(1,ii v1),z2,z4,(11,.ptr 0 [] 13),(12,bo (eI .i64) x_a.Mem),(13,ii v1)]) [z1] 1 ?_)))
 obtain ⟨v2,hv2,hh⟩:=bind_some hh
 let z5:=(16,bb (decide (v2<(0:Int))))
 refine ys (.call 99 [(.t 12),(.t 13)]) (some 14) (oc (laws_szIntS_fn hv2) ?_)
 refine yt (sp 30 [(1,ii v2),z2]) [z1] 1 (Aw.seq (sy [1,2,16] [0] (sp 30 [(1,ii v2),z2,z5]) [z1] 1 ?_))
 rcases cond_some hh with ⟨hb,hh⟩ | ⟨hb,hh⟩
 · exact cT hb (sy [4] [] (sp 30 [z3]) [] 1 (Aw.ret (then_r (gvis hh))))
 refine cF hb (Aw.xskip (fun _ _ _ hq=>then_m hq) (Aw.sreg [1,2] [0] (yj 3  (sp 30 [(1,ii v2),z2,z5,(17,.ptr 0 [] 14),(18,bo (eI .i64) x_a.In),(19,ii v2)]) [z1] 1 ?_)))
 obtain ⟨v3,hv3,hh⟩:=bind_some hh
 let z6:=(22,bb (decide (v3<(0:Int))))
 refine ys (.call 99 [(.t 18),(.t 19)]) (some 20) (oc (laws_szIntS_fn hv3) ?_)
 refine yt (sp 30 [(1,ii v3),z2]) [z1] 1 (Aw.seq (sy [1,2,22] [0] (sp 30 [(1,ii v3),z2,z6]) [z1] 1 ?_))
 rcases cond_some hh with ⟨hb,hh⟩ | ⟨hb,hh⟩
 · exact cT hb (sy [4] [] (sp 30 [z3]) [] 1 (Aw.ret (then_r (gvis hh))))
 refine cF hb (Aw.xskip (fun _ _ _ hq=>then_m hq) (Aw.sreg [1] [] (yj 3  (sp 30 [(1,ii v3),z2,z6,(23,.ptr 0 [] 15),(24,bo (eI .i64) x_a.Out),(25,ii v3)]) [z1] 1 ?_)))
 obtain ⟨v4,hv4,hh⟩:=bind_some hh
 refine ys (.call 99 [(.t 24),(.t 25)]) (some 26) (oc (laws_szIntS_fn hv4) ?_)
 refine yt (sp 30 [(1,ii v4)]) [] 1 (Aw.seq (sy [1,28] [] (sp 30 [(1,ii v4),(28,bb (decide (v4<(0:Int))))]) [] 1 ?_))
 rcases cond_some hh with ⟨hb,hh⟩ | ⟨hb,hh⟩
 · exact cT hb (sy [4] [] (sp 30 [z3]) [] 1 (Aw.ret (then_r (gvis hh))))
 exact cF hb (Aw.xskip (fun _ _ _ hq=>then_m hq) (sy [4] [] (sp 30 [(4,ii v4)]) [] 1 (Aw.ret (gvis hh))))
theorem low_laws_markCore:LW 104 ⟨10,[(.tmp 4)],(.seq (.reg false (rg 104 0)) (.seq (.reg false (rg 104 1)) (.seq (.reg false (rg 104 2)) .ret)))⟩:=kr
noncomputable def F_laws_markCore (x_a:DCore) (x_k:Int):Option ((List Int) × Int) :=
 Option.bind (F_laws_markIntS x_a.Regs x_k) fun v1 =>
 grd (List.length v1.1=(List.length x_a.Regs)) (some (v1.1,v1.2))
theorem laws_markCore_fn {x_a:DCore} {x_k:Int} {R_:(List Int) × Int} (hh:F_laws_markCore x_a x_k=some R_):Inl Try.prog 104 [.agg (.sref 0 [] 0 (List.length x_a.Regs) 1::ru25 x_a []),.int .i64 x_k] [(0,some (rI_3 x_a.Regs))] 1 (.int .i64 R_.2) [(0,some (rI_3 R_.1))] 1:=by
 unfold F_laws_markCore at hh
 let q1:Root:=(rI_3 x_a.Regs)
 refine Inl.start low_laws_markCore [0,1] [0] (E:=sp 10 [(0,.agg (sw 0 x_a.Regs::ru25 x_a [])),(1,ii x_k)]) (H1:=[(0,some q1)]) kr kr (Aw.sreg [1,2] [0,1] ?_)
 let q2:Root:=⟨25,(sw 0 x_a.Regs::ru25 x_a [])⟩
 refine yt (sp 10 [(1,ii x_k),(2,pp 1)]) [(0,some q1),(1,some q2)] 2 (Aw.sreg [1] [0] (yu 3 [(5,pp 1),(6,sw 0 x_a.Regs),(7,ii x_k)] [(0,some q1),(1,some q2)] 2 ?_))
 obtain ⟨v1,hv1,hh⟩:=bind_some hh
 let z1:EH:=(0,some (rI_3 v1.1))
 obtain ⟨hg2,hh⟩:=grd_some hh
 refine ys (.call 105 [(.t 6),(.t 7)]) (some 8) (cf (ii v1.2) [z1] 2 [0] (laws_markIntS_fn hv1) [sw 0 x_a.Regs,ii x_k] rz (hn nr_eI hs_nil) ren_i (hn nr_eI hs_nil) ?_)
 refine yt (sp 10 [(1,ii v1.2)]) [z1] 2 (sy [4] [0] (sp 10 [(4,ii v1.2)]) [z1] 2 (Aw.ret ?_))
 rw [some_some hh]
 exact gives (r':=ii v1.2) kr (el [some 0] (rens_1 ren_i) (hn nr_eI hs_nil))
theorem low_laws_markBare:LW 38 ⟨22,[(.tmp 4)],(.seq (.reg false (rg 38 0)) (.seq (.reg false (rg 38 1)) (.seq (.reg false (rg 38 2)) (.seq (.reg false (rg 38 3)) (.seq (.reg false (rg 38 4)) (.seq (.reg false (rg 38 5)) .ret))))))⟩:=kr
noncomputable def F_laws_markBare (x_a:DBare) (x_k:Int):Option ((List Int) × (List Int) × (List Int) × (List Int) × Int) :=
 Option.bind (F_laws_markCore x_a.C x_k) fun v1 =>
 grd (List.length v1.1=(List.length x_a.C.Regs)) (Option.bind (F_laws_markIntS x_a.Mem v1.2) fun v2 =>
  grd (List.length v2.1=(List.length x_a.Mem)) (Option.bind (F_laws_markIntS x_a.In v2.2) fun v3 =>
   grd (List.length v3.1=(List.length x_a.In)) (Option.bind (F_laws_markIntS x_a.Out v3.2) fun v4 =>
    grd (List.length v4.1=(List.length x_a.Out)) (some (v1.1,v2.1,v3.1,v4.1,v4.2)))))
theorem laws_markBare_fn {x_a:DBare} {x_k:Int} {R_:(List Int) × (List Int) × (List Int) × (List Int) × Int} (hh:F_laws_markBare x_a x_k=some R_):Inl Try.prog 38 [.agg (.sref 0 [] 0 (List.length x_a.C.Regs) 1::ru25 x_a.C [.sref 1 [] 0 (List.length x_a.Mem) 1,.sref 2 [] 0 (List.length x_a.In) 1,.sref 3 [] 0 (List.length x_a.Out) 1]),.int .i64 x_k] [(3,some (rI_3 x_a.Out)),(2,some (rI_3 x_a.In)),(1,some (rI_3 x_a.Mem)),(0,some (rI_3 x_a.C.Regs))] 4 (.int .i64 R_.2.2.2.2) [(0,some (rI_3 R_.1)),(1,some (rI_3 R_.2.1)),(2,some (rI_3 R_.2.2.1)),(3,some (rI_3 R_.2.2.2.1))] 4:=by
 unfold F_laws_markBare at hh
 let q1:Root:=(rI_3 x_a.C.Regs); let q2:Root:=(rI_3 x_a.Mem); let z1:=(1,some q2); let q3:Root:=(rI_3 x_a.In); let z2:=(2,some q3); let q4:Root:=(rI_3 x_a.Out); let z3:=(3,some q4)
 refine Inl.start low_laws_markBare [0,1] [0,1,2,3] (E:=sp 22 [(0,.agg (sw 0 x_a.C.Regs::ru25 x_a.C [sw 1 x_a.Mem,sw 2 x_a.In,sw 3 x_a.Out])),(1,ii x_k)]) (H1:=[(0,some q1),z1,z2,z3]) kr kr (Aw.sreg [1,2] [0,1,2,3,4] ?_)
 let q5:Root:=⟨27,(sw 0 x_a.C.Regs::ru25 x_a.C [sw 1 x_a.Mem,sw 2 x_a.In,sw 3 x_a.Out])⟩; let z4:=(4,some q5)
 refine yt (sp 22 [(1,ii x_k),(2,pp 4)]) [(0,some q1),z1,z2,z3,z4] 5 (Aw.sreg [1,2] [0,1,2,3,4] (yu 3 [(5,pp 4),(6,.agg (sw 0 x_a.C.Regs::ru25 x_a.C [])),(7,ii x_k)] [(0,some q1),z1,z2,z3,z4] 5 ?_))
 obtain ⟨v1,hv1,hh⟩:=bind_some hh
 let z5:EH:=(0,some (rI_3 v1.1))
 obtain ⟨hg2,hh⟩:=grd_some hh
 refine ys (.call 104 [(.t 6),(.t 7)]) (some 8) (cf (ii v1.2) [z5] 5 [0] (laws_markCore_fn hv1) [.agg (sw 0 x_a.C.Regs::ru25 x_a.C []),ii x_k] rz (hn nr_eI hs_nil) ren_i (hn nr_eI hs_nil) ?_)
 refine yt (sp 22 [(1,ii v1.2),(2,pp 4)]) [z5,z1,z2,z3,z4] 5 (Aw.sreg [1,2] [0,1,2,3,4] (yu 3 [(9,.ptr 4 [] 13),(10,sw 1 x_a.Mem),(11,ii v1.2)] [z5,z1,z2,z3,z4] 5 ?_))
 obtain ⟨v2,hv2,hh⟩:=bind_some hh
 let z6:EH:=(1,some (rI_3 v2.1))
 obtain ⟨hg4,hh⟩:=grd_some hh
 refine ys (.call 105 [(.t 10),(.t 11)]) (some 12) (cf (ii v2.2) [z6] 5 [1] (laws_markIntS_fn hv2) [sw 1 x_a.Mem,ii v1.2] rz (hn nr_eI hs_nil) ren_i (hn nr_eI hs_nil) ?_)
 refine yt (sp 22 [(1,ii v2.2),(2,pp 4)]) [z5,z6,z2,z3,z4] 5 (Aw.sreg [1,2] [0,1,2,3,4] (yu 3 [(13,.ptr 4 [] 14),(14,sw 2 x_a.In),(15,ii v2.2)] [z5,z6,z2,z3,z4] 5 ?_))
 obtain ⟨v3,hv3,hh⟩:=bind_some hh
 let z7:EH:=(2,some (rI_3 v3.1))
 obtain ⟨hg6,hh⟩:=grd_some hh
 refine ys (.call 105 [(.t 14),(.t 15)]) (some 16) (cf (ii v3.2) [z7] 5 [2] (laws_markIntS_fn hv3) [sw 2 x_a.In,ii v2.2] rz (hn nr_eI hs_nil) ren_i (hn nr_eI hs_nil) ?_)
 refine yt (sp 22 [(1,ii v3.2),(2,pp 4)]) [z5,z6,z7,z3,z4] 5 (Aw.sreg [1] [0,1,2,3] (yu 3 [(17,.ptr 4 [] 15),(18,sw 3 x_a.Out),(19,ii v3.2)] [z5,z6,z7,z3,z4] 5 ?_))
 obtain ⟨v4,hv4,hh⟩:=bind_some hh
 let z8:EH:=(3,some (rI_3 v4.1))
 obtain ⟨hg8,hh⟩:=grd_some hh
 refine ys (.call 105 [(.t 18),(.t 19)]) (some 20) (cf (ii v4.2) [z8] 5 [3] (laws_markIntS_fn hv4) [sw 3 x_a.Out,ii v3.2] rz (hn nr_eI hs_nil) ren_i (hn nr_eI hs_nil) ?_)
 refine yt (sp 22 [(1,ii v4.2)]) [z5,z6,z7,z8] 5 (sy [4] [0,1,2,3] (sp 22 [(4,ii v4.2)]) [z5,z6,z7,z8] 5 (Aw.ret ?_))
 rw [some_some hh]
 exact gives (r':=ii v4.2) kr (el [some 0,some 1,some 2,some 3] (rens_1 ren_i) (hn nr_eI (hn nr_eI (hn nr_eI (hn nr_eI hs_nil)))))
theorem low_laws_heldCore:LW 106 ⟨12,[(.tmp 4)],(.seq (.reg false (rg 106 0)) (.seq (.reg false (rg 106 1)) (.seq (.seq (.reg false (rg 106 2)) (.cond (.t 10) (.seq (.reg false (rg 106 3)) .ret) .skip)) (.seq (.reg false (rg 106 4)) .ret))))⟩:=kr
noncomputable def F_laws_heldCore (x_a:DCore) (x_k:Int):Option Int :=
 Option.bind (F_laws_heldIntS x_a.Regs x_k) fun v1 =>
 cond (decide (v1<(0:Int)))
  (some (-1:Int))
  (some v1)
theorem laws_heldCore_fn {x_a:DCore} {x_k:Int} {R_:Int} (hh:F_laws_heldCore x_a x_k=some R_):Fn Try.prog 106 [.agg (B_25 x_a),.int .i64 x_k] (.int .i64 R_):=by
 unfold F_laws_heldCore at hh
 refine Fn.start low_laws_heldCore [0,1] (E:=sp 12 [(0,.agg (B_25 x_a)),(1,ii x_k)]) kr (v:=ii R_) (Hr:=[]) (k:=0) kr (sy [1,2] [0] (sp 12 [(1,ii x_k),(2,pp 0)]) [(0,some (rB25 x_a))] 1 (Aw.sreg [1] [] (yu 3 [(5,pp 0),(6,bo (eI .i64) x_a.Regs),(7,ii x_k)] [(0,some (rB25 x_a))] 1 ?_)))
 obtain ⟨v1,hv1,hh⟩:=bind_some hh
 refine ys (.call 107 [(.t 6),(.t 7)]) (some 8) (oc (laws_heldIntS_fn hv1) ?_)
 refine yt (sp 12 [(1,ii v1)]) [] 1 (Aw.seq (sy [1,10] [] (sp 12 [(1,ii v1),(10,bb (decide (v1<(0:Int))))]) [] 1 ?_))
 rcases cond_some hh with ⟨hb,hh⟩ | ⟨hb,hh⟩
 · exact cT hb (sy [4] [] (sp 12 [(4,ii (-1))]) [] 1 (Aw.ret (then_r (gvis hh))))
 exact cF hb (Aw.xskip (fun _ _ _ hq=>then_m hq) (sy [4] [] (sp 12 [(4,ii v1)]) [] 1 (Aw.ret (gvis hh))))
theorem low_laws_heldBare:LW 39 ⟨30,[(.tmp 4)],(.seq (.reg false (rg 39 0)) (.seq (.reg false (rg 39 1)) (.seq (.seq (.reg false (rg 39 2)) (.cond (.t 10) (.seq (.reg false (rg 39 3)) .ret) .skip)) (.seq (.reg false (rg 39 4)) (.seq (.seq (.reg false (rg 39 5)) (.cond (.t 16) (.seq (.reg false (rg 39 6)) .ret) .skip)) (.seq (.reg false (rg 39 7)) (.seq (.seq (.reg false (rg 39 8)) (.cond (.t 22) (.seq (.reg false (rg 39 9)) .ret) .skip)) (.seq (.reg false (rg 39 10)) (.seq (.seq (.reg false (rg 39 11)) (.cond (.t 28) (.seq (.reg false (rg 39 12)) .ret) .skip)) (.seq (.reg false (rg 39 13)) .ret))))))))))⟩:=kr
noncomputable def F_laws_heldBare (x_a:DBare) (x_k:Int):Option Int :=
 Option.bind (F_laws_heldCore x_a.C x_k) fun v1 =>
 cond (decide (v1<(0:Int)))
  (some (-1:Int))
  (Option.bind (F_laws_heldIntS x_a.Mem v1) fun v2 =>
  cond (decide (v2<(0:Int)))
   (some (-1:Int))
   (Option.bind (F_laws_heldIntS x_a.In v2) fun v3 =>
   cond (decide (v3<(0:Int)))
    (some (-1:Int))
    (Option.bind (F_laws_heldIntS x_a.Out v3) fun v4 =>
    cond (decide (v4<(0:Int)))
     (some (-1:Int))
     (some v4))))
theorem laws_heldBare_fn {x_a:DBare} {x_k:Int} {R_:Int} (hh:F_laws_heldBare x_a x_k=some R_):Fn Try.prog 39 [.agg (B_27 x_a),.int .i64 x_k] (.int .i64 R_):=by
 let z1:EH:=(0,some (rB27 x_a)); let z2:=(2,pp 0); let z3:=(4,ii (-1))
 unfold F_laws_heldBare at hh
 refine Fn.start low_laws_heldBare [0,1] (E:=sp 30 [(0,.agg (B_27 x_a)),(1,ii x_k)]) kr (v:=ii R_) (Hr:=[]) (k:=0) kr (sy [1,2] [0] (sp 30 [(1,ii x_k),z2]) [z1] 1 (Aw.sreg [1,2] [0] (yu 3 [(5,pp 0),(6,.agg (B_25 x_a.C)),(7,ii x_k)] [z1] 1 ?_)))
 obtain ⟨v1,hv1,hh⟩:=bind_some hh
 let z4:=(10,bb (decide (v1<(0:Int))))
 refine ys (.call 106 [(.t 6),(.t 7)]) (some 8) (op_call (r:=ii v1) (v:=ii v1) (Hr:=[]) (n':=1) (laws_heldCore_fn hv1) (clz_v (vs:=[.agg (B_25 x_a.C),ii x_k]) kr (clz_c (clo_same (clean_agg (cl_B_25 _))) (cz1 clz_n))) rfl rfl kr ?_)
 refine yt (sp 30 [(1,ii v1),z2]) [z1] 1 (Aw.seq (sy [1,2,10] [0] (sp 30 [(1,ii v1),z2,z4]) [z1] 1 ?_))
 rcases cond_some hh with ⟨hb,hh⟩ | ⟨hb,hh⟩
 · exact cT hb (sy [4] [] (sp 30 [z3]) [] 1 (Aw.ret (then_r (gvis hh))))
 refine cF hb (Aw.xskip (fun _ _ _ hq=>then_m hq) (Aw.sreg [1,2] [0] (yj 3  (sp 30 [(1,ii v1),z2,z4,(11,.ptr 0 [] 13),(12,bo (eI .i64) x_a.Mem),(13,ii v1)]) [z1] 1 ?_)))
 obtain ⟨v2,hv2,hh⟩:=bind_some hh
 let z5:=(16,bb (decide (v2<(0:Int))))
 refine ys (.call 107 [(.t 12),(.t 13)]) (some 14) (oc (laws_heldIntS_fn hv2) ?_)
 refine yt (sp 30 [(1,ii v2),z2]) [z1] 1 (Aw.seq (sy [1,2,16] [0] (sp 30 [(1,ii v2),z2,z5]) [z1] 1 ?_))
 rcases cond_some hh with ⟨hb,hh⟩ | ⟨hb,hh⟩
 · exact cT hb (sy [4] [] (sp 30 [z3]) [] 1 (Aw.ret (then_r (gvis hh))))
 refine cF hb (Aw.xskip (fun _ _ _ hq=>then_m hq) (Aw.sreg [1,2] [0] (yj 3  (sp 30 [(1,ii v2),z2,z5,(17,.ptr 0 [] 14),(18,bo (eI .i64) x_a.In),(19,ii v2)]) [z1] 1 ?_)))
 obtain ⟨v3,hv3,hh⟩:=bind_some hh
 let z6:=(22,bb (decide (v3<(0:Int))))
 refine ys (.call 107 [(.t 18),(.t 19)]) (some 20) (oc (laws_heldIntS_fn hv3) ?_)
 refine yt (sp 30 [(1,ii v3),z2]) [z1] 1 (Aw.seq (sy [1,2,22] [0] (sp 30 [(1,ii v3),z2,z6]) [z1] 1 ?_))
 rcases cond_some hh with ⟨hb,hh⟩ | ⟨hb,hh⟩
 · exact cT hb (sy [4] [] (sp 30 [z3]) [] 1 (Aw.ret (then_r (gvis hh))))
 refine cF hb (Aw.xskip (fun _ _ _ hq=>then_m hq) (Aw.sreg [1] [] (yj 3  (sp 30 [(1,ii v3),z2,z6,(23,.ptr 0 [] 15),(24,bo (eI .i64) x_a.Out),(25,ii v3)]) [z1] 1 ?_)))
 obtain ⟨v4,hv4,hh⟩:=bind_some hh
 refine ys (.call 107 [(.t 24),(.t 25)]) (some 26) (oc (laws_heldIntS_fn hv4) ?_)
 refine yt (sp 30 [(1,ii v4)]) [] 1 (Aw.seq (sy [1,28] [] (sp 30 [(1,ii v4),(28,bb (decide (v4<(0:Int))))]) [] 1 ?_))
 rcases cond_some hh with ⟨hb,hh⟩ | ⟨hb,hh⟩
 · exact cT hb (sy [4] [] (sp 30 [z3]) [] 1 (Aw.ret (then_r (gvis hh))))
 exact cF hb (Aw.xskip (fun _ _ _ hq=>then_m hq) (sy [4] [] (sp 30 [(4,ii v4)]) [] 1 (Aw.ret (gvis hh))))
end Go.Proofs.Ytbanbjdcgdmkaaa
