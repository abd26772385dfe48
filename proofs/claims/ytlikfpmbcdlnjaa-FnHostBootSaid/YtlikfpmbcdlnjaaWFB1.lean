/- Plain functions of the program, and that it hands back what they say. Made by program. -/
import Derived.Test.YtlikfpmbcdlnjaaWT
import Derived.Test.YtlikfpmbcdlnjaaProg
import Derived.Test.YtlikfpmbcdlnjaaWD1
import Derived.Test.YtlikfpmbcdlnjaaWGA1
import Derived.Test.YtlikfpmbcdlnjaaWHB1
import Derived.Test.YtlikfpmbcdlnjaaWHO1
import Derived.Test.YtlikfpmbcdlnjaaWHV1
import Derived.Test.YtlikfpmbcdlnjaaWI1
import Derived.Test.YtlikfpmbcdlnjaaWJ1
import Derived.Test.YtlikfpmbcdlnjaaWK1
namespace Go.Proofs.Ytlikfpmbcdlnjaa
open Go.RowKit
set_option maxRecDepth 100000
set_option linter.all false
set_option maxHeartbeats 0
def Lf3_r0:List LOper:=[oF 2]
def Lf3_r1:List LOper:=[om 13 0,oH 14 13,ob 15 .gtr 14 1048576]
def Lf3_r2:List LOper:=[oT 2]
def Lf3_r3:List LOper:=[om 17 0,oK 18 17 [17],om 16 18,oE 19 16 0,oE 20 16 1,oo 3 (.fresh 26 [.nil,.nil]),oo 4 (.fresh 30 zc1),oS 2 3 19,oS 16 4 20]
def Lf3_r4:List LOper:=[oL 22 2 3,oL 23 16 4,oK 24 18 [22,23],om 21 24,oE 25 21 0,oE 26 21 1,oE 27 21 2,oo 5 (.fresh 26 [.nil,.nil]),oS 2 5 25,om 6 26,om 7 27]
def Lf3_r5:List LOper:=[oL 29 2 3,oL 30 16 4,oK 31 19 [29,30],om 28 31,oE 32 28 0,oE 33 28 1,oE 34 28 2,oo 8 (.fresh 26 [.nil,.nil]),oS 2 8 32,om 9 33,om 10 34]
def Lf3_r6:List LOper:=[om 35 7,om 36 10,oo 37 (.binb true (.t 35) (.t 36)),om 38 37,og 39 (.mv (.t 6)) 38 false,og 40 (.mv (.t 9)) 38 false,og 41 (.bin .neq (.t 39) (.t 40)) 38 false,oQ 42 38 41,om 43 42,og 44 (.load true 2 (.t 5)) 43 false,og 45 (.load true 2 (.t 8)) 43 false,og 46 (.call 20 [(.t 44),(.t 45)]) 43 false,og 47 (.un .not (.t 46)) 43 false,oQ 48 43 47]
def Lf3_r7:List LOper:=[oF 2]
def Lf3_r8:List LOper:=[om 49 7,oU 50 49]
def Lf3_r9:List LOper:=[om 51 6,ob 52 .eql 51 (-1),om 53 52,og 54 (.call 21 []) 53 true,oP 55 53 54,om 2 55]
def Lf3_r10:List LOper:=[oL 57 2 5,om 58 6,oK 59 22 [57,58],om 56 59,oE 60 56 0,oE 61 56 1,oo 11 (.fresh 30 zc1),oS 16 11 60,om 12 61]
def Lf3_r11:List LOper:=[oL 62 2 5,oK 63 23 [62],om 64 63,og 65 (.mv (.t 12)) 64 true,oP 66 64 65,om 67 66,og 68 (.load true 16 (.t 11)) 67 true,og 69 (.load true 16 (.t 4)) 67 true,og 70 (.call 24 [(.t 68),(.t 69)]) 67 true,oP 71 67 70,om 72 71,og 73 (.load true 2 (.t 3)) 72 true,og 74 (.load true 2 (.t 5)) 72 true,og 75 (.mv (.t 6)) 72 true,og 76 (.call 25 [(.t 73),(.t 74),(.t 75)]) 72 true,oP 77 72 76,om 2 77]
def Lf3:LFun:=⟨78,[(.tmp 2)],(.seq (.reg false Lf3_r0) (.seq (.seq (.reg false Lf3_r1) (.cond (.t 15) (.seq (.reg false Lf3_r2) .ret) .skip)) (.seq (.reg false Lf3_r3) (.seq (.reg false Lf3_r4) (.seq (.reg false Lf3_r5) (.seq (.seq (.reg false Lf3_r6) (.cond (.t 48) (.seq (.reg false Lf3_r7) .ret) .skip)) (.seq (.seq (.reg false Lf3_r8) (.cond (.t 50) (.seq (.reg false Lf3_r9) .ret) .skip)) (.seq (.reg false Lf3_r10) (.seq (.reg false Lf3_r11) .ret)))))))))⟩
theorem low_laws_FnHostBoot:lowFun Go.Proofs.Try.prog 3=some Lf3:=by kernel_rfl
noncomputable def F_laws_FnHostBoot (x_code:List Int):Option Bool :=
 cond (decide ((1048576:Int)<(((List.length x_code):Nat):Int)))
  (some true)
  (Option.bind (F_spec_DrawHostBoot x_code) fun v1 =>
  Option.bind (F_impl_HostBoot v1.1 v1.2) fun v2 =>
  Option.bind (F_spec_HostBoot v1.1 v1.2) fun v3 =>
  cond (!(v2.2.2 == v3.2.2))
   (some false)
   (cond (!decide (v2.2.1=v3.2.1))
    (some false)
    (Option.bind (F_laws_sameHost v2.1 v3.1) fun v4 =>
    cond (!v4)
     (some false)
     (cond (!v2.2.2)
      (cond (decide (v2.2.1=(-1:Int)))
       (Option.bind (F_laws_alive ) fun v5 =>
       some v5)
       (some false))
      (Option.bind (F_impl_HostView v2.1 v2.2.1) fun v6 =>
      Option.bind (F_impl_HostOk v2.1) fun v7 =>
      cond v7
       (cond v6.2
        (Option.bind (F_laws_sameBare v6.1 v1.2) fun v8 =>
        cond v8
         (Option.bind (F_laws_sameViews v1.1 v2.1 v2.2.1) fun v9 =>
         some v9)
         (some false))
        (some false))
       (some false))))))
theorem laws_FnHostBoot_fn {x_code:List Int} {R_:Bool} (hh:F_laws_FnHostBoot x_code=some R_):Fn Try.prog 3 [bo (eI .u8) x_code] (.bool R_):=by
 let z1:=(0,bo (eI .u8) x_code); let z2:=(15,bb (decide ((1048576:Int)<(((List.length x_code):Nat):Int)))); let z3:=(2,bb false); let z4:=(3,pp 6); let z5:=(4,pp 7); let z6:=(5,pp 10)
 unfold F_laws_FnHostBoot at hh
 refine Fn.start low_laws_FnHostBoot [0] (E:=sp 78 [z1]) kr (v:=bb R_) (Hr:=[]) (k:=0) kr (sy [0] [] (sp 78 [z1]) [] 0 (Aw.seq (sy [0,15] [] (sp 78 [z1,z2]) [] 0 ?_)))
 rcases cond_some hh with ⟨hb,hh⟩ | ⟨hb,hh⟩
 · exact cT hb (sy [2] [] (sp 78 [(2,bb true)]) [] 0 (Aw.ret (then_r (gvbs hh))))
 refine cF hb (Aw.xskip (fun _ _ _ hq=>then_m hq) (Aw.sreg [3,4] [0,1,2,3,4,5,6,7] (yj 1  (sp 78 [z1,z2,(17,bo (eI .u8) x_code)]) [] 0 ?_)))
 obtain ⟨v1,hv1,hh⟩:=bind_some hh
 let q1:Root:=⟨3,(fl (eI .i64) v1.2.Out)⟩; let z7:=(5,some q1); let q2:Root:=⟨3,(fl (eI .i64) v1.2.In)⟩; let z8:=(4,some q2); let q3:Root:=⟨3,(fl (eI .i64) v1.2.Mem)⟩; let z9:=(3,some q3); let q4:Root:=⟨3,(fl (eI .i64) v1.2.C.Regs)⟩; let z10:=(2,some q4); let q5:Root:=⟨53,(fl O_53 v1.1.Guests)⟩; let z11:=(1,some q5); let q6:Root:=⟨3,(fl (eI .i64) v1.1.Words)⟩; let z12:=(0,some q6)
 refine ys (.call 17 [(.t 17)]) (some 18) (op_call (r:=.tup [.agg [.own 3 1 (List.length v1.1.Words) (fl (eI .i64) v1.1.Words),.own 53 17 (List.length v1.1.Guests) (fl O_53 v1.1.Guests)],.agg (.own 3 1 (List.length v1.2.C.Regs) (fl (eI .i64) v1.2.C.Regs)::ru28 v1.2.C [.own 3 1 (List.length v1.2.Mem) (fl (eI .i64) v1.2.Mem),.own 3 1 (List.length v1.2.In) (fl (eI .i64) v1.2.In),.own 3 1 (List.length v1.2.Out) (fl (eI .i64) v1.2.Out)])]) (v:=.tup [.agg [sw 0 v1.1.Words,.sref 1 [] 0 (List.length v1.1.Guests) 17],.agg (sw 2 v1.2.C.Regs::ru28 v1.2.C [sw 3 v1.2.Mem,sw 4 v1.2.In,sw 5 v1.2.Out])]) (Hr:=[z7,z8,z9,z10,z11,z12]) (n':=6) (spec_DrawHostBoot_fn hv1) (clz_v (vs:=[bo (eI .u8) x_code]) kr (clz_c (clo_same (clean_bor (cleans_fl cl_eI))) clz_n)) (by simp only [ru28,AV.noRef,noRefs,Bool.and_self,noRefs_fl nr_eI,noRefs_fl nr_O_53]) (by simp only [ru28,AV.noBor,noBors,Bool.and_self,noBors_fl nb_eI,noBors_fl nb_O_53]) kr ?_)
 let q7:Root:=⟨26,[sw 0 v1.1.Words,.sref 1 [] 0 (List.length v1.1.Guests) 17]⟩; let z13:=(6,some q7); let q8:Root:=⟨30,(sw 2 v1.2.C.Regs::ru28 v1.2.C [sw 3 v1.2.Mem,sw 4 v1.2.In,sw 5 v1.2.Out])⟩; let z14:=(7,some q8)
 refine yt (sp 78 [z4,z5]) [z12,z11,z10,z9,z8,z7,z13,z14] 8 (Aw.sreg [3,4,5,6,7] [0,1,2,3,4,5,6,7,8,9,10] (yu 2 [(22,.agg [sw 0 v1.1.Words,.sref 1 [] 0 (List.length v1.1.Guests) 17]),(23,.agg (sw 2 v1.2.C.Regs::ru28 v1.2.C [sw 3 v1.2.Mem,sw 4 v1.2.In,sw 5 v1.2.Out]))] [z12,z11,z10,z9,z8,z7,z13,z14] 8 ?_))
 obtain ⟨v2,hv2,hh⟩:=bind_some hh
 let z15:=(6,ii v2.2.1); let z16:=(7,bb v2.2.2); let q9:Root:=⟨53,(fl O_53 v2.1.Guests)⟩; let z17:=(9,some q9); let q10:Root:=⟨3,(fl (eI .i64) v2.1.Words)⟩; let z18:=(8,some q10)
 refine ys (.call 18 [(.t 22),(.t 23)]) (some 24) (op_call (r:=.tup [.agg [.own 3 1 (List.length v2.1.Words) (fl (eI .i64) v2.1.Words),.own 53 17 (List.length v2.1.Guests) (fl O_53 v2.1.Guests)],ii v2.2.1,bb v2.2.2]) (v:=.tup [.agg [sw 8 v2.1.Words,.sref 9 [] 0 (List.length v2.1.Guests) 17],ii v2.2.1,bb v2.2.2]) (Hr:=[z17,z18]) (n':=10) (impl_HostBoot_fn hv2) (clz_v (vs:=[.agg [sw 0 v1.1.Words,.sref 1 [] 0 (List.length v1.1.Guests) 17],.agg (sw 2 v1.2.C.Regs::ru28 v1.2.C [sw 3 v1.2.Mem,sw 4 v1.2.In,sw 5 v1.2.Out])]) kr (clz_c (clo_agg (clos_c (clo_own (c:=(eI .i64)) (xs:=v1.1.Words) (e:=3) eqn len_eI no_eI cl_eI kr) (clos_c (clo_flr (B:=B_53) (xs:=v1.1.Guests) (e:=53) oc_O_53 len_O_53 eqn kr) clos_n))) (clz_c (clo_agg (clos_c (clo_own (c:=(eI .i64)) (xs:=v1.2.C.Regs) (e:=3) eqn len_eI no_eI cl_eI kr) (cs1 (cs1 (cs1 (cs1 (cs1 (cs1 (cs1 (cs1 (cs1 (cs1 (cs1 (cs1 (clos_c (clo_own (c:=(eI .i64)) (xs:=v1.2.Mem) (e:=3) eqn len_eI no_eI cl_eI kr) (clos_c (clo_own (c:=(eI .i64)) (xs:=v1.2.In) (e:=3) eqn len_eI no_eI cl_eI kr) (clos_c (clo_own (c:=(eI .i64)) (xs:=v1.2.Out) (e:=3) eqn len_eI no_eI cl_eI kr) clos_n))))))))))))))))) clz_n))) (by simp only [ru28,AV.noRef,noRefs,Bool.and_self,noRefs_fl nr_eI,noRefs_fl nr_O_53]) (by simp only [ru28,AV.noBor,noBors,Bool.and_self,noBors_fl nb_eI,noBors_fl nb_O_53]) kr ?_)
 let q11:Root:=⟨26,[sw 8 v2.1.Words,.sref 9 [] 0 (List.length v2.1.Guests) 17]⟩; let z19:=(10,some q11)
 refine yt (sp 78 [z4,z5,z6,z15,z16]) [z12,z11,z10,z9,z8,z7,z13,z14,z18,z17,z19] 11 (Aw.sreg [3,4,5,6,7,8,9,10] [0,1,2,3,4,5,6,7,8,9,10,11,12,13] (yu 2 [(29,.agg [sw 0 v1.1.Words,.sref 1 [] 0 (List.length v1.1.Guests) 17]),(30,.agg (sw 2 v1.2.C.Regs::ru28 v1.2.C [sw 3 v1.2.Mem,sw 4 v1.2.In,sw 5 v1.2.Out]))] [z12,z11,z10,z9,z8,z7,z13,z14,z18,z17,z19] 11 ?_))
 obtain ⟨v3,hv3,hh⟩:=bind_some hh
 let q12:Root:=⟨53,(fl O_53 v3.1.Guests)⟩; let z20:=(12,some q12); let q13:Root:=⟨3,(fl (eI .i64) v3.1.Words)⟩; let z21:=(11,some q13)
 refine ys (.call 19 [(.t 29),(.t 30)]) (some 31) (op_call (r:=.tup [.agg [.own 3 1 (List.length v3.1.Words) (fl (eI .i64) v3.1.Words),.own 53 17 (List.length v3.1.Guests) (fl O_53 v3.1.Guests)],ii v3.2.1,bb v3.2.2]) (v:=.tup [.agg [sw 11 v3.1.Words,.sref 12 [] 0 (List.length v3.1.Guests) 17],ii v3.2.1,bb v3.2.2]) (Hr:=[z20,z21]) (n':=13) (spec_HostBoot_fn hv3) (clz_v (vs:=[.agg [sw 0 v1.1.Words,.sref 1 [] 0 (List.length v1.1.Guests) 17],.agg (sw 2 v1.2.C.Regs::ru28 v1.2.C [sw 3 v1.2.Mem,sw 4 v1.2.In,sw 5 v1.2.Out])]) kr (clz_c (clo_agg (clos_c (clo_own (c:=(eI .i64)) (xs:=v1.1.Words) (e:=3) eqn len_eI no_eI cl_eI kr) (clos_c (clo_flr (B:=B_53) (xs:=v1.1.Guests) (e:=53) oc_O_53 len_O_53 eqn kr) clos_n))) (clz_c (clo_agg (clos_c (clo_own (c:=(eI .i64)) (xs:=v1.2.C.Regs) (e:=3) eqn len_eI no_eI cl_eI kr) (cs1 (cs1 (cs1 (cs1 (cs1 (cs1 (cs1 (cs1 (cs1 (cs1 (cs1 (cs1 (clos_c (clo_own (c:=(eI .i64)) (xs:=v1.2.Mem) (e:=3) eqn len_eI no_eI cl_eI kr) (clos_c (clo_own (c:=(eI .i64)) (xs:=v1.2.In) (e:=3) eqn len_eI no_eI cl_eI kr) (clos_c (clo_own (c:=(eI .i64)) (xs:=v1.2.Out) (e:=3) eqn len_eI no_eI cl_eI kr) clos_n))))))))))))))))) clz_n))) (by simp only [ru28,AV.noRef,noRefs,Bool.and_self,noRefs_fl nr_eI,noRefs_fl nr_O_53]) (by simp only [ru28,AV.noBor,noBors,Bool.and_self,noBors_fl nb_eI,noBors_fl nb_O_53]) kr ?_)
 let q14:Root:=⟨26,[sw 11 v3.1.Words,.sref 12 [] 0 (List.length v3.1.Guests) 17]⟩; let z22:=(13,some q14)
 refine yt (sp 78 [z4,z5,z6,z15,z16,(8,pp 13),(9,ii v3.2.1),(10,bb v3.2.2)]) [z12,z11,z10,z9,z8,z7,z13,z14,z18,z17,z19,z21,z20,z22] 14 (Aw.seq (Aw.sreg [3,4,5,6,7,48] [0,1,2,3,4,5,6,7,8,9,10] (yj 4  (sp 78 [z4,z5,z6,z15,z16,(8,pp 13),(9,ii v3.2.1),(10,bb v3.2.2),(35,bb v2.2.2),(36,bb v3.2.2),(37,bb (!(v2.2.2 == v3.2.2))),(38,bb (!(v2.2.2 == v3.2.2)))]) [z12,z11,z10,z9,z8,z7,z13,z14,z18,z17,z19,z21,z20,z22] 14 ?_)))
 rcases cond_some hh with ⟨hb,hh⟩ | ⟨hb,hh⟩
 · exact yb 37 hb (yb 38 hb (yt (sp 78 [z4,z5,z6,z15,z16,(48,bb true)]) [z12,z11,z10,z9,z8,z7,z13,z14,z18,z17,z19] 14 (cT rfl (sy [2] [] (sp 78 [z3]) [] 14 (Aw.ret (then_r (gvbs hh)))))))
 refine yb 37 hb (yb 38 hb (yu 5 [(37,bb false),(38,bb false),(39,ii v2.2.1),(40,ii v3.2.1),(41,bb (!decide (v2.2.1=v3.2.1))),(42,bb (!decide (v2.2.1=v3.2.1))),(43,bb (!decide (v2.2.1=v3.2.1)))] [z12,z11,z10,z9,z8,z7,z13,z14,z18,z17,z19,z21,z20,z22] 14 ?_))
 rcases cond_some hh with ⟨hb,hh⟩ | ⟨hb,hh⟩
 · exact yb 41 hb (yb 42 hb (yb 43 hb (yt (sp 78 [z4,z5,z6,z15,z16,(48,bb true)]) [z12,z11,z10,z9,z8,z7,z13,z14,z18,z17,z19] 14 (cT rfl (sy [2] [] (sp 78 [z3]) [] 14 (Aw.ret (then_r (gvbs hh))))))))
 refine yb 41 hb (yb 42 hb (yb 43 hb (yu 2 [(41,bb false),(42,bb false),(43,bb false),(44,.agg [sw 8 v2.1.Words,.sref 9 [] 0 (List.length v2.1.Guests) 17]),(45,.agg [sw 11 v3.1.Words,.sref 12 [] 0 (List.length v3.1.Guests) 17])] [z12,z11,z10,z9,z8,z7,z13,z14,z18,z17,z19,z21,z20,z22] 14 ?_)))
 obtain ⟨v4,hv4,hh⟩:=bind_some hh
 refine yg (.call 20 [(.t 44),(.t 45)]) (some 46) 43 false (op_call (r:=bb v4) (v:=bb v4) (Hr:=[]) (n':=14) (laws_sameHost_fn hv4) (clz_v (vs:=[.agg [sw 8 v2.1.Words,.sref 9 [] 0 (List.length v2.1.Guests) 17],.agg [sw 11 v3.1.Words,.sref 12 [] 0 (List.length v3.1.Guests) 17]]) kr (clz_c (clo_agg (clos_c (clo_own (c:=(eI .i64)) (xs:=v2.1.Words) (e:=3) eqn len_eI no_eI cl_eI kr) (clos_c (clo_flr (B:=B_53) (xs:=v2.1.Guests) (e:=53) oc_O_53 len_O_53 eqn kr) clos_n))) (clz_c (clo_agg (clos_c (clo_own (c:=(eI .i64)) (xs:=v3.1.Words) (e:=3) eqn len_eI no_eI cl_eI kr) (clos_c (clo_flr (B:=B_53) (xs:=v3.1.Guests) (e:=53) oc_O_53 len_O_53 eqn kr) clos_n))) clz_n))) rfl rfl kr ?_)
 refine yt (sp 78 [z4,z5,z6,z15,z16,(48,bb (!v4))]) [z12,z11,z10,z9,z8,z7,z13,z14,z18,z17,z19] 14 ?_
 rcases cond_some hh with ⟨hb,hh⟩ | ⟨hb,hh⟩
 · exact cT hb (sy [2] [] (sp 78 [z3]) [] 14 (Aw.ret (then_r (gvbs hh))))
 refine cF hb (Aw.xskip (fun _ _ _ hq=>then_m hq) (Aw.seq (sy [3,4,5,6,50] [0,1,2,3,4,5,6,7,8,9,10] (sp 78 [z4,z5,z6,z15,(50,bb (!v2.2.2))]) [z12,z11,z10,z9,z8,z7,z13,z14,z18,z17,z19] 14 ?_)))
 rcases cond_some hh with ⟨hb,hh⟩ | ⟨hb,hh⟩
 · refine cT hb (Aw.sreg [2] [] (yu 3 [(51,ii v2.2.1),(52,bb (decide (v2.2.1=(-1:Int)))),(53,bb (decide (v2.2.1=(-1:Int))))] [z12,z11,z10,z9,z8,z7,z13,z14,z18,z17,z19] 14 ?_))
   rcases cond_sf hh with ⟨hb,hh⟩ | ⟨hb,hh⟩
   · exact yb 52 hb (yb 53 hb (yt (sp 78 [z3]) [] 14 (Aw.ret (then_r (gvbs hh)))))
   refine yb 52 hb (yb 53 hb ?_)
   obtain ⟨v5,hv5,hh⟩:=bind_some hh
   refine yg (.call 21 []) (some 54) 53 true (oc (laws_alive_fn hv5) ?_)
   exact yt (sp 78 [(2,bb v5)]) [] 14 (Aw.ret (then_r (gvbs hh)))
 refine cF hb (Aw.xskip (fun _ _ _ hq=>then_m hq) (Aw.sreg [3,4,5,6,11,12] [0,1,2,3,4,5,6,7,8,9,10,14,15,16,17,18] (yj 2  (sp 78 [z4,z5,z6,z15,(50,bb (!v2.2.2)),(57,.agg [sw 8 v2.1.Words,.sref 9 [] 0 (List.length v2.1.Guests) 17]),(58,ii v2.2.1)]) [z12,z11,z10,z9,z8,z7,z13,z14,z18,z17,z19] 14 ?_)))
 obtain ⟨v6,hv6,hh⟩:=bind_some hh
 let q15:Root:=⟨3,(fl (eI .i64) v6.1.Out)⟩; let z23:=(17,some q15); let q16:Root:=⟨3,(fl (eI .i64) v6.1.In)⟩; let z24:=(16,some q16); let q17:Root:=⟨3,(fl (eI .i64) v6.1.Mem)⟩; let z25:=(15,some q17); let q18:Root:=⟨3,(fl (eI .i64) v6.1.C.Regs)⟩; let z26:=(14,some q18)
 refine ys (.call 22 [(.t 57),(.t 58)]) (some 59) (op_call (r:=.tup [.agg (.own 3 1 (List.length v6.1.C.Regs) (fl (eI .i64) v6.1.C.Regs)::ru28 v6.1.C [.own 3 1 (List.length v6.1.Mem) (fl (eI .i64) v6.1.Mem),.own 3 1 (List.length v6.1.In) (fl (eI .i64) v6.1.In),.own 3 1 (List.length v6.1.Out) (fl (eI .i64) v6.1.Out)]),bb v6.2]) (v:=.tup [.agg (sw 14 v6.1.C.Regs::ru28 v6.1.C [sw 15 v6.1.Mem,sw 16 v6.1.In,sw 17 v6.1.Out]),bb v6.2]) (Hr:=[z23,z24,z25,z26]) (n':=18) (impl_HostView_fn hv6) (clz_v (vs:=[.agg [sw 8 v2.1.Words,.sref 9 [] 0 (List.length v2.1.Guests) 17],ii v2.2.1]) kr (clz_c (clo_agg (clos_c (clo_own (c:=(eI .i64)) (xs:=v2.1.Words) (e:=3) eqn len_eI no_eI cl_eI kr) (clos_c (clo_flr (B:=B_53) (xs:=v2.1.Guests) (e:=53) oc_O_53 len_O_53 eqn kr) clos_n))) (cz1 clz_n))) (by simp only [ru28,AV.noRef,noRefs,Bool.and_self,noRefs_fl nr_eI]) (by simp only [ru28,AV.noBor,noBors,Bool.and_self,noBors_fl nb_eI]) kr ?_)
 let q19:Root:=⟨30,(sw 14 v6.1.C.Regs::ru28 v6.1.C [sw 15 v6.1.Mem,sw 16 v6.1.In,sw 17 v6.1.Out])⟩; let z27:=(18,some q19)
 refine yt (sp 78 [z4,z5,z6,z15,(11,pp 18),(12,bb v6.2)]) [z12,z11,z10,z9,z8,z7,z13,z14,z18,z17,z19,z26,z25,z24,z23,z27] 19 (Aw.sreg [2] [] (yu 1 [(62,.agg [sw 8 v2.1.Words,.sref 9 [] 0 (List.length v2.1.Guests) 17])] [z12,z11,z10,z9,z8,z7,z13,z14,z18,z17,z19,z26,z25,z24,z23,z27] 19 ?_))
 obtain ⟨v7,hv7,hh⟩:=bind_some hh
 refine ys (.call 23 [(.t 62)]) (some 63) (op_call (r:=bb v7) (v:=bb v7) (Hr:=[]) (n':=19) (impl_HostOk_fn hv7) (clz_v (vs:=[.agg [sw 8 v2.1.Words,.sref 9 [] 0 (List.length v2.1.Guests) 17]]) kr (clz_c (clo_agg (clos_c (clo_own (c:=(eI .i64)) (xs:=v2.1.Words) (e:=3) eqn len_eI no_eI cl_eI kr) (clos_c (clo_flr (B:=B_53) (xs:=v2.1.Guests) (e:=53) oc_O_53 len_O_53 eqn kr) clos_n))) clz_n)) rfl rfl kr ?_)
 refine yu 1 [(63,bb v7),(64,bb v7)] [z12,z11,z10,z9,z8,z7,z13,z14,z18,z17,z19,z26,z25,z24,z23,z27] 19 ?_
 rcases cond_sf hh with ⟨hb,hh⟩ | ⟨hb,hh⟩
 · exact yb 63 hb (yb 64 hb (yt (sp 78 [z3]) [] 19 (Aw.ret (gvbs hh))))
 refine yb 63 hb (yb 64 hb (yu 3 [(63,bb true),(64,bb true),(65,bb v6.2),(66,bb v6.2),(67,bb v6.2)] [z12,z11,z10,z9,z8,z7,z13,z14,z18,z17,z19,z26,z25,z24,z23,z27] 19 ?_))
 rcases cond_sf hh with ⟨hb,hh⟩ | ⟨hb,hh⟩
 · exact yb 12 hb (yb 65 hb (yb 66 hb (yb 67 hb (yt (sp 78 [z3]) [] 19 (Aw.ret (gvbs hh))))))
 refine yb 12 hb (yb 65 hb (yb 66 hb (yb 67 hb (yu 2 [(12,bb true),(65,bb true),(66,bb true),(67,bb true),(68,.agg (sw 14 v6.1.C.Regs::ru28 v6.1.C [sw 15 v6.1.Mem,sw 16 v6.1.In,sw 17 v6.1.Out])),(69,.agg (sw 2 v1.2.C.Regs::ru28 v1.2.C [sw 3 v1.2.Mem,sw 4 v1.2.In,sw 5 v1.2.Out]))] [z12,z11,z10,z9,z8,z7,z13,z14,z18,z17,z19,z26,z25,z24,z23,z27] 19 ?_))))
 obtain ⟨v8,hv8,hh⟩:=bind_some hh
 refine yg (.call 24 [(.t 68),(.t 69)]) (some 70) 67 true (op_call (r:=bb v8) (v:=bb v8) (Hr:=[]) (n':=19) (laws_sameBare_fn hv8) (clz_v (vs:=[.agg (sw 14 v6.1.C.Regs::ru28 v6.1.C [sw 15 v6.1.Mem,sw 16 v6.1.In,sw 17 v6.1.Out]),.agg (sw 2 v1.2.C.Regs::ru28 v1.2.C [sw 3 v1.2.Mem,sw 4 v1.2.In,sw 5 v1.2.Out])]) kr (clz_c (clo_agg (clos_c (clo_own (c:=(eI .i64)) (xs:=v6.1.C.Regs) (e:=3) eqn len_eI no_eI cl_eI kr) (cs1 (cs1 (cs1 (cs1 (cs1 (cs1 (cs1 (cs1 (cs1 (cs1 (cs1 (cs1 (clos_c (clo_own (c:=(eI .i64)) (xs:=v6.1.Mem) (e:=3) eqn len_eI no_eI cl_eI kr) (clos_c (clo_own (c:=(eI .i64)) (xs:=v6.1.In) (e:=3) eqn len_eI no_eI cl_eI kr) (clos_c (clo_own (c:=(eI .i64)) (xs:=v6.1.Out) (e:=3) eqn len_eI no_eI cl_eI kr) clos_n))))))))))))))))) (clz_c (clo_agg (clos_c (clo_own (c:=(eI .i64)) (xs:=v1.2.C.Regs) (e:=3) eqn len_eI no_eI cl_eI kr) (cs1 (cs1 (cs1 (cs1 (cs1 (cs1 (cs1 (cs1 (cs1 (cs1 (cs1 (cs1 (clos_c (clo_own (c:=(eI .i64)) (xs:=v1.2.Mem) (e:=3) eqn len_eI no_eI cl_eI kr) (clos_c (clo_own (c:=(eI .i64)) (xs:=v1.2.In) (e:=3) eqn len_eI no_eI cl_eI kr) (clos_c (clo_own (c:=(eI .i64)) (xs:=v1.2.Out) (e:=3) eqn len_eI no_eI cl_eI kr) clos_n))))))))))))))))) clz_n))) rfl rfl kr ?_)
 refine yu 2 [(70,bb v8),(71,bb v8),(72,bb v8)] [z12,z11,z10,z9,z8,z7,z13,z14,z18,z17,z19,z26,z25,z24,z23,z27] 19 ?_
 rcases cond_sf hh with ⟨hb,hh⟩ | ⟨hb,hh⟩
 · exact yb 70 hb (yb 71 hb (yb 72 hb (yt (sp 78 [z3]) [] 19 (Aw.ret (gvbs hh)))))
 refine yb 70 hb (yb 71 hb (yb 72 hb (yu 3 [(70,bb true),(71,bb true),(72,bb true),(73,.agg [sw 0 v1.1.Words,.sref 1 [] 0 (List.length v1.1.Guests) 17]),(74,.agg [sw 8 v2.1.Words,.sref 9 [] 0 (List.length v2.1.Guests) 17]),(75,ii v2.2.1)] [z12,z11,z10,z9,z8,z7,z13,z14,z18,z17,z19,z26,z25,z24,z23,z27] 19 ?_)))
 obtain ⟨v9,hv9,hh⟩:=bind_some hh
 refine yg (.call 25 [(.t 73),(.t 74),(.t 75)]) (some 76) 72 true (op_call (r:=bb v9) (v:=bb v9) (Hr:=[]) (n':=19) (laws_sameViews_fn hv9) (clz_v (vs:=[.agg [sw 0 v1.1.Words,.sref 1 [] 0 (List.length v1.1.Guests) 17],.agg [sw 8 v2.1.Words,.sref 9 [] 0 (List.length v2.1.Guests) 17],ii v2.2.1]) kr (clz_c (clo_agg (clos_c (clo_own (c:=(eI .i64)) (xs:=v1.1.Words) (e:=3) eqn len_eI no_eI cl_eI kr) (clos_c (clo_flr (B:=B_53) (xs:=v1.1.Guests) (e:=53) oc_O_53 len_O_53 eqn kr) clos_n))) (clz_c (clo_agg (clos_c (clo_own (c:=(eI .i64)) (xs:=v2.1.Words) (e:=3) eqn len_eI no_eI cl_eI kr) (clos_c (clo_flr (B:=B_53) (xs:=v2.1.Guests) (e:=53) oc_O_53 len_O_53 eqn kr) clos_n))) (cz1 clz_n)))) rfl rfl kr ?_)
 exact yt (sp 78 [(2,bb v9)]) [] 19 (Aw.ret (gvbs hh))
end Go.Proofs.Ytlikfpmbcdlnjaa
