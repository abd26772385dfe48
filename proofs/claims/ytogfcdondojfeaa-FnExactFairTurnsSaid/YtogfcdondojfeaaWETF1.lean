/- Plain functions of the program, and that it hands back what they say. Made by program. -/
import Derived.Test.YtogfcdondojfeaaWTD
import Derived.Test.YtogfcdondojfeaaProg
import Derived.Test.YtogfcdondojfeaaWH1
import Derived.Test.YtogfcdondojfeaaWTF1
namespace Go.Proofs.Ytogfcdondojfeaa
open Go.RowKit
set_option maxRecDepth 100000
set_option linter.all false
set_option maxHeartbeats 0
theorem low_laws_FnExactFairTurns:LW 9 ⟨71,[(.tmp 4)],(.seq (.reg false (rg 9 0)) (.seq (.seq (.reg false (rg 9 1)) (.cond (.t 14) (.seq (.reg false (rg 9 2)) .ret) .skip)) (.seq (.reg false (rg 9 3)) (.seq (.reg false (rg 9 4)) (.seq (.reg false (rg 9 5)) (.seq (.seq (.reg false (rg 9 6)) (.cond (.t 27) (.seq (.reg false (rg 9 7)) .ret) .skip)) (.seq (.seq (.reg false (rg 9 8)) (.cond (.t 32) (.seq (.reg false (rg 9 9)) .ret) .skip)) (.seq (.reg false (rg 9 10)) (.seq (.reg false (rg 9 11)) (.seq (.seq (.reg false (rg 9 12)) (.cond (.t 43) (.seq (.reg false (rg 9 13)) .ret) .skip)) (.seq (.reg false (rg 9 14)) (.seq (.reg false (rg 9 15)) (.seq (.reg false (rg 9 16)) (.seq (.reg false (rg 9 17)) (.seq (.seq (.reg false (rg 9 18)) (.cond (.t 51) (.seq (.reg false (rg 9 19)) .ret) .skip)) (.seq (.seq (.reg false (rg 9 20)) (.cond (.t 54) (.seq (.reg false (rg 9 21)) .ret) .skip)) (.seq (.reg false (rg 9 22)) (.seq (.seq (.reg false (rg 9 23)) (.cond (.t 62) (.seq (.reg false (rg 9 24)) .ret) .skip)) (.seq (.reg false (rg 9 25)) (.seq (.reg false (rg 9 26)) (.seq (.seq (.reg false (rg 9 27)) (.cond (.t 67) (.seq (.reg false (rg 9 28)) .ret) .skip)) (.seq (.seq (.reg false (rg 9 29)) (.cond (.t 70) (.seq (.reg false (rg 9 30)) .ret) .skip)) (.seq (.reg false (rg 9 31)) .ret)))))))))))))))))))))))⟩:=kr
noncomputable def F_laws_FnExactFairTurns (x_aWeights:List Int) (x_aMany:Int):Option Bool :=
 cond (decide ((1048576:Int)<(((List.length x_aWeights):Nat):Int)))
  (some true)
  (Option.bind (F_laws_toIntS x_aWeights) fun v1 =>
  Option.bind (F_spec_FairTurns v1 x_aMany) fun v2 =>
  Option.bind (F_laws_toIntS x_aWeights) fun v3 =>
  Option.bind (F_impl_FairTurns v3 x_aMany) fun v4 =>
  Option.bind (F_laws_eqIntS v4 v2) fun v5 =>
  cond (!v5)
   (some false)
   (Option.bind (F_laws_toIntS x_aWeights) fun v6 =>
   Option.bind (F_laws_eqIntS v3 v6) fun v7 =>
   cond (!v7)
    (some false)
    (Option.bind (F_laws_markIntS v3 (1:Int)) fun v8 =>
    grd (List.length v8.1=(List.length v3)) (cond (decide (v8.2<(0:Int)))
     (some false)
     (Option.bind (F_laws_eqIntS v4 v2) fun v9 =>
     cond (!v9)
      (some false)
      (Option.bind (F_laws_markIntS v4 (1:Int)) fun v10 =>
      grd (List.length v10.1=(List.length v4)) (Option.bind (F_laws_heldIntS v10.1 (1:Int)) fun v11 =>
       cond (decide (v11<(0:Int)))
        (some false)
        (cond (!decide (v11=v10.2))
         (some false)
         (Option.bind (F_laws_toIntS x_aWeights) fun v12 =>
         Option.bind (F_impl_FairTurns v12 x_aMany) fun v13 =>
         Option.bind (F_laws_eqIntS v13 v2) fun v14 =>
         cond (!v14)
          (some false)
          (Option.bind (F_laws_heldIntS v10.1 (1:Int)) fun v15 =>
          cond (decide (v15<(0:Int)))
           (some false)
           (cond (!decide (v15=v10.2))
            (some false)
            (some true))))))))))))
theorem laws_FnExactFairTurns_fn {x_aWeights:List Int} {x_aMany:Int} {R_:Bool} (hh:F_laws_FnExactFairTurns x_aWeights x_aMany=some R_):Fn Try.prog 9 [bo (eI .i64) x_aWeights,.int .i64 x_aMany] (.bool R_):=by
 let z1:=(0,bo (eI .i64) x_aWeights); let z2:=(1,ii x_aMany); let z3:=(14,bb (decide ((1048576:Int)<(((List.length x_aWeights):Nat):Int)))); let z4:=(4,bb false)
 unfold F_laws_FnExactFairTurns at hh
 refine Fn.start low_laws_FnExactFairTurns [0,1] (E:=sp 71 [z1,z2]) kr (v:=bb R_) (Hr:=[]) (k:=0) kr (sy [0,1] [] (sp 71 [z1,z2]) [] 0 (Aw.seq (sy [0,1,14] [] (sp 71 [z1,z2,z3]) [] 0 ?_)))
 rcases cond_some hh with ⟨hb,hh⟩ | ⟨hb,hh⟩
 · exact cT hb (sy [4] [] (sp 71 [(4,bb true)]) [] 0 (Aw.ret (then_r (gvbs hh))))
 refine cF hb (Aw.xskip (fun _ _ _ hq=>then_m hq) (Aw.sreg [0,1,5] [1] (yj 1  (sp 71 [z1,z2,z3,(15,bo (eI .i64) x_aWeights)]) [] 0 ?_)))
 obtain ⟨v1,hv1,hh⟩:=bind_some hh
 let z5:EH:=(0,some (rI_3 v1))
 refine ys (.call 30 [(.t 15)]) (some 16) (op_call (r:=.own 3 1 (List.length v1) (fl (eI .i64) v1)) (v:=sw 0 v1) (Hr:=[z5]) (n':=1) (laws_toIntS_fn hv1) (clz_v (vs:=[bo (eI .i64) x_aWeights]) kr (clz_c (clo_same (clean_bor (cleans_fl cl_eI))) clz_n)) nrr nrr kr ?_)
 refine yu 1 [(16,sw 0 v1),(17,ii x_aMany)] [z5] 1 ?_
 obtain ⟨v2,hv2,hh⟩:=bind_some hh
 let z6:EH:=(1,some (rI_3 v2)); let z7:=(5,sw 1 v2)
 refine ys (.call 29 [(.t 16),(.t 17)]) (some 18) (op_call (r:=.own 3 1 (List.length v2) (fl (eI .i64) v2)) (v:=sw 1 v2) (Hr:=[z6]) (n':=2) (spec_FairTurns_fn hv2) (clz_v (vs:=[sw 0 v1,ii x_aMany]) kr (clz_c (clo_own (c:=(eI .i64)) (xs:=v1) (e:=3) eqn len_eI no_eI cl_eI kr) (cz1 clz_n))) nrr nrr kr ?_)
 refine yt (sp 71 [z1,z2,z7]) [z6] 2 (Aw.sreg [0,1,5,6] [1,2] (yu 1 [(19,bo (eI .i64) x_aWeights)] [z6] 2 ?_))
 obtain ⟨v3,hv3,hh⟩:=bind_some hh
 let z8:EH:=(2,some (rI_3 v3)); let z9:=(6,sw 2 v3)
 refine ys (.call 30 [(.t 19)]) (some 20) (op_call (r:=.own 3 1 (List.length v3) (fl (eI .i64) v3)) (v:=sw 2 v3) (Hr:=[z8]) (n':=3) (laws_toIntS_fn hv3) (clz_v (vs:=[bo (eI .i64) x_aWeights]) kr (clz_c (clo_same (clean_bor (cleans_fl cl_eI))) clz_n)) nrr nrr kr ?_)
 refine yt (sp 71 [z1,z2,z7,z9]) [z6,z8] 3 (Aw.sreg [0,1,5,6,7] [1,2,3] (yu 2 [(21,sw 2 v3),(22,ii x_aMany)] [z6,z8] 3 ?_))
 obtain ⟨v4,hv4,hh⟩:=bind_some hh
 let z10:EH:=(3,some (rI_3 v4)); let z11:=(7,sw 3 v4)
 refine ys (.call 27 [(.t 21),(.t 22)]) (some 23) (op_call (r:=.own 3 1 (List.length v4) (fl (eI .i64) v4)) (v:=sw 3 v4) (Hr:=[z10]) (n':=4) (impl_FairTurns_fn hv4) (clz_v (vs:=[sw 2 v3,ii x_aMany]) kr (clz_c (clo_own (c:=(eI .i64)) (xs:=v3) (e:=3) eqn len_eI no_eI cl_eI kr) (cz1 clz_n))) nrr nrr kr ?_)
 refine yt (sp 71 [z1,z2,z7,z9,z11]) [z6,z8,z10] 4 (Aw.seq (Aw.sreg [0,1,5,6,7,27] [1,2,3] (yj 2  (sp 71 [z1,z2,z7,z9,z11,(24,sw 3 v4),(25,sw 1 v2)]) [z6,z8,z10] 4 ?_)))
 obtain ⟨v5,hv5,hh⟩:=bind_some hh
 refine ys (.call 31 [(.t 24),(.t 25)]) (some 26) (op_call (r:=bb v5) (v:=bb v5) (Hr:=[]) (n':=4) (laws_eqIntS_fn hv5) (clz_v (vs:=[sw 3 v4,sw 1 v2]) kr (clz_c (clo_own (c:=(eI .i64)) (xs:=v4) (e:=3) eqn len_eI no_eI cl_eI kr) (clz_c (clo_own (c:=(eI .i64)) (xs:=v2) (e:=3) eqn len_eI no_eI cl_eI kr) clz_n))) rfl rfl kr ?_)
 refine yt (sp 71 [z1,z2,z7,z9,z11,(27,bb (!v5))]) [z6,z8,z10] 4 ?_
 rcases cond_some hh with ⟨hb,hh⟩ | ⟨hb,hh⟩
 · exact cT hb (sy [4] [] (sp 71 [z4]) [] 4 (Aw.ret (then_r (gvbs hh))))
 refine cF hb (Aw.xskip (fun _ _ _ hq=>then_m hq) (Aw.seq (Aw.sreg [0,1,5,6,7,32] [1,2,3] (yj 2  (sp 71 [z1,z2,z7,z9,z11,(27,bb (!v5)),(28,sw 2 v3),(29,bo (eI .i64) x_aWeights)]) [z6,z8,z10] 4 ?_))))
 obtain ⟨v6,hv6,hh⟩:=bind_some hh
 refine ys (.call 30 [(.t 29)]) (some 30) (op_call (r:=.own 3 1 (List.length v6) (fl (eI .i64) v6)) (v:=sw 4 v6) (Hr:=[(4,some (rI_3 v6))]) (n':=5) (laws_toIntS_fn hv6) (clz_v (vs:=[bo (eI .i64) x_aWeights]) kr (clz_c (clo_same (clean_bor (cleans_fl cl_eI))) clz_n)) nrr nrr kr ?_)
 obtain ⟨v7,hv7,hh⟩:=bind_some hh
 refine ys (.call 31 [(.t 28),(.t 30)]) (some 31) (op_call (r:=bb v7) (v:=bb v7) (Hr:=[]) (n':=5) (laws_eqIntS_fn hv7) (clz_v (vs:=[sw 2 v3,sw 4 v6]) kr (clz_c (clo_own (c:=(eI .i64)) (xs:=v3) (e:=3) eqn len_eI no_eI cl_eI kr) (clz_c (clo_own (c:=(eI .i64)) (xs:=v6) (e:=3) eqn len_eI no_eI cl_eI kr) clz_n))) rfl rfl kr ?_)
 refine yt (sp 71 [z1,z2,z7,z9,z11,(32,bb (!v7))]) [z6,z8,z10] 5 ?_
 rcases cond_some hh with ⟨hb,hh⟩ | ⟨hb,hh⟩
 · exact cT hb (sy [4] [] (sp 71 [z4]) [] 5 (Aw.ret (then_r (gvbs hh))))
 refine cF hb (Aw.xskip (fun _ _ _ hq=>then_m hq) (sy [0,1,5,6,7,8] [1,2,3] (sp 71 [z1,z2,z7,z9,z11,(8,ii 1)]) [z6,z8,z10] 5 (Aw.sreg [0,1,5,7,8] [1,3] (yu 2 [(33,sw 2 v3),(34,ii 1)] [z6,z8,z10] 5 ?_))))
 obtain ⟨v8,hv8,hh⟩:=bind_some hh
 obtain ⟨hg2,hh⟩:=grd_some hh
 refine ys (.call 32 [(.t 33),(.t 34)]) (some 35) (cf (ii v8.2) [(2,some (rI_3 v8.1))] 5 [2] (laws_markIntS_fn hv8) [sw 2 v3,ii 1] rz (hn nr_eI hs_nil) ren_i (hn nr_eI hs_nil) ?_)
 refine yt (sp 71 [z1,z2,z7,z11,(8,ii v8.2)]) [z6,z10] 5 (Aw.seq (Aw.sreg [0,1,5,7,43] [1,3] (yj 3  (sp 71 [z1,z2,z7,z11,(8,ii v8.2),(36,ii v8.2),(37,bb (decide (v8.2<(0:Int)))),(38,bb (decide (v8.2<(0:Int))))]) [z6,z10] 5 ?_)))
 rcases cond_some hh with ⟨hb,hh⟩ | ⟨hb,hh⟩
 · exact yb 37 hb (yb 38 hb (yt (sp 71 [z1,z2,z7,z11,(43,bb true)]) [z6,z10] 5 (cT rfl (sy [4] [] (sp 71 [z4]) [] 5 (Aw.ret (then_r (gvbs hh)))))))
 refine yb 37 hb (yb 38 hb (yu 2 [(37,bb false),(38,bb false),(39,sw 3 v4),(40,sw 1 v2)] [z6,z10] 5 ?_))
 obtain ⟨v9,hv9,hh⟩:=bind_some hh
 refine yg (.call 31 [(.t 39),(.t 40)]) (some 41) 38 false (op_call (r:=bb v9) (v:=bb v9) (Hr:=[]) (n':=5) (laws_eqIntS_fn hv9) (clz_v (vs:=[sw 3 v4,sw 1 v2]) kr (clz_c (clo_own (c:=(eI .i64)) (xs:=v4) (e:=3) eqn len_eI no_eI cl_eI kr) (clz_c (clo_own (c:=(eI .i64)) (xs:=v2) (e:=3) eqn len_eI no_eI cl_eI kr) clz_n))) rfl rfl kr ?_)
 refine yt (sp 71 [z1,z2,z7,z11,(43,bb (!v9))]) [z6,z10] 5 ?_
 rcases cond_some hh with ⟨hb,hh⟩ | ⟨hb,hh⟩
 · exact cT hb (sy [4] [] (sp 71 [z4]) [] 5 (Aw.ret (then_r (gvbs hh))))
 refine cF hb (Aw.xskip (fun _ _ _ hq=>then_m hq) (sy [0,1,5,7,9] [1,3] (sp 71 [z1,z2,z7,z11,(9,ii 1)]) [z6,z10] 5 (Aw.sreg [0,1,5,7,9] [1,3] (yu 2 [(44,sw 3 v4),(45,ii 1)] [z6,z10] 5 ?_))))
 obtain ⟨v10,hv10,hh⟩:=bind_some hh
 let z12:=(9,ii v10.2)
 obtain ⟨hg4,hh⟩:=grd_some hh
 let q1:Root:=(rI_3 v10.1); let z13:=(3,some q1)
 refine ys (.call 32 [(.t 44),(.t 45)]) (some 46) (cf (ii v10.2) [z13] 5 [3] (laws_markIntS_fn hv10) [sw 3 v4,ii 1] rz (hn nr_eI hs_nil) ren_i (hn nr_eI hs_nil) ?_)
 refine yt (sp 71 [z1,z2,z7,z11,z12]) [z6,z13] 5 (sy [0,1,5,7,9,10] [1,3] (sp 71 [z1,z2,z7,z11,z12,(10,ii 1)]) [z6,z13] 5 (Aw.sreg [0,1,5,7,9,10] [1,3] (yu 2 [(47,sw 3 v4),(48,ii 1)] [z6,z13] 5 ?_)))
 obtain ⟨v11,hv11,hh⟩:=bind_some hh
 let z14:=(54,bb (!decide (v11=v10.2)))
 refine ys (.call 33 [(.t 47),(.t 48)]) (some 49) (op_call (r:=ii v11) (v:=ii v11) (Hr:=[]) (n':=5) (laws_heldIntS_fn hv11) (clz_v (vs:=[sw 3 v4,ii 1]) kr (clz_c (clo_own (c:=(eI .i64)) (xs:=v10.1) (e:=3) eqn len_eI no_eI cl_eI kr) (cz1 clz_n))) rfl rfl kr ?_)
 refine yt (sp 71 [z1,z2,z7,z11,z12,(10,ii v11)]) [z6,z13] 5 (Aw.seq (sy [0,1,5,7,9,10,51] [1,3] (sp 71 [z1,z2,z7,z11,z12,(10,ii v11),(51,bb (decide (v11<(0:Int))))]) [z6,z13] 5 ?_))
 rcases cond_some hh with ⟨hb,hh⟩ | ⟨hb,hh⟩
 · exact cT hb (sy [4] [] (sp 71 [z4]) [] 5 (Aw.ret (then_r (gvbs hh))))
 refine cF hb (Aw.xskip (fun _ _ _ hq=>then_m hq) (Aw.seq (sy [0,1,5,7,9,54] [1,3] (sp 71 [z1,z2,z7,z11,z12,z14]) [z6,z13] 5 ?_)))
 rcases cond_some hh with ⟨hb,hh⟩ | ⟨hb,hh⟩
 · exact cT hb (sy [4] [] (sp 71 [z4]) [] 5 (Aw.ret (then_r (gvbs hh))))
 refine cF hb (Aw.xskip (fun _ _ _ hq=>then_m hq) (Aw.sreg [5,7,9,11] [1,3,6] (yj 1  (sp 71 [z1,z2,z7,z11,z12,z14,(55,bo (eI .i64) x_aWeights)]) [z6,z13] 5 ?_)))
 obtain ⟨v12,hv12,hh⟩:=bind_some hh
 let z15:EH:=(5,some (rI_3 v12))
 refine ys (.call 30 [(.t 55)]) (some 56) (op_call (r:=.own 3 1 (List.length v12) (fl (eI .i64) v12)) (v:=sw 5 v12) (Hr:=[z15]) (n':=6) (laws_toIntS_fn hv12) (clz_v (vs:=[bo (eI .i64) x_aWeights]) kr (clz_c (clo_same (clean_bor (cleans_fl cl_eI))) clz_n)) nrr nrr kr ?_)
 refine yu 1 [(56,sw 5 v12),(57,ii x_aMany)] [z15,z6,z13] 6 ?_
 obtain ⟨v13,hv13,hh⟩:=bind_some hh
 let z16:EH:=(6,some (rI_3 v13))
 refine ys (.call 27 [(.t 56),(.t 57)]) (some 58) (op_call (r:=.own 3 1 (List.length v13) (fl (eI .i64) v13)) (v:=sw 6 v13) (Hr:=[z16]) (n':=7) (impl_FairTurns_fn hv13) (clz_v (vs:=[sw 5 v12,ii x_aMany]) kr (clz_c (clo_own (c:=(eI .i64)) (xs:=v12) (e:=3) eqn len_eI no_eI cl_eI kr) (cz1 clz_n))) nrr nrr kr ?_)
 refine yt (sp 71 [z7,z11,z12,(11,sw 6 v13)]) [z6,z13,z16] 7 (Aw.seq (Aw.sreg [7,9,62] [3] (yj 2  (sp 71 [z7,z11,z12,(11,sw 6 v13),(59,sw 6 v13),(60,sw 1 v2)]) [z6,z13,z16] 7 ?_)))
 obtain ⟨v14,hv14,hh⟩:=bind_some hh
 refine ys (.call 31 [(.t 59),(.t 60)]) (some 61) (op_call (r:=bb v14) (v:=bb v14) (Hr:=[]) (n':=7) (laws_eqIntS_fn hv14) (clz_v (vs:=[sw 6 v13,sw 1 v2]) kr (clz_c (clo_own (c:=(eI .i64)) (xs:=v13) (e:=3) eqn len_eI no_eI cl_eI kr) (clz_c (clo_own (c:=(eI .i64)) (xs:=v2) (e:=3) eqn len_eI no_eI cl_eI kr) clz_n))) rfl rfl kr ?_)
 refine yt (sp 71 [z11,z12,(62,bb (!v14))]) [z13] 7 ?_
 rcases cond_some hh with ⟨hb,hh⟩ | ⟨hb,hh⟩
 · exact cT hb (sy [4] [] (sp 71 [z4]) [] 7 (Aw.ret (then_r (gvbs hh))))
 refine cF hb (Aw.xskip (fun _ _ _ hq=>then_m hq) (sy [7,9,10] [3] (sp 71 [z11,z12,(10,ii 1)]) [z13] 7 (Aw.sreg [9,10] [] (yu 2 [(63,sw 3 v4),(64,ii 1)] [z13] 7 ?_))))
 obtain ⟨v15,hv15,hh⟩:=bind_some hh
 refine ys (.call 33 [(.t 63),(.t 64)]) (some 65) (op_call (r:=ii v15) (v:=ii v15) (Hr:=[]) (n':=7) (laws_heldIntS_fn hv15) (clz_v (vs:=[sw 3 v4,ii 1]) kr (clz_c (clo_own (c:=(eI .i64)) (xs:=v10.1) (e:=3) eqn len_eI no_eI cl_eI kr) (cz1 clz_n))) rfl rfl kr ?_)
 refine yt (sp 71 [z12,(10,ii v15)]) [] 7 (Aw.seq (sy [9,10,67] [] (sp 71 [z12,(10,ii v15),(67,bb (decide (v15<(0:Int))))]) [] 7 ?_))
 rcases cond_some hh with ⟨hb,hh⟩ | ⟨hb,hh⟩
 · exact cT hb (sy [4] [] (sp 71 [z4]) [] 7 (Aw.ret (then_r (gvbs hh))))
 refine cF hb (Aw.xskip (fun _ _ _ hq=>then_m hq) (Aw.seq (sy [70] [] (sp 71 [(70,bb (!decide (v15=v10.2)))]) [] 7 ?_)))
 rcases cond_some hh with ⟨hb,hh⟩ | ⟨hb,hh⟩
 · exact cT hb (sy [4] [] (sp 71 [z4]) [] 7 (Aw.ret (then_r (gvbs hh))))
 exact cF hb (Aw.xskip (fun _ _ _ hq=>then_m hq) (sy [4] [] (sp 71 [(4,bb true)]) [] 7 (Aw.ret (gvbs hh))))
end Go.Proofs.Ytogfcdondojfeaa
