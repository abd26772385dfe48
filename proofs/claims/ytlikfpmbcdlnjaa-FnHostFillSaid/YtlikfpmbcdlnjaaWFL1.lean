/- Plain functions of the program, and that it hands back what they say. Made by program. -/
import Derived.Test.YtlikfpmbcdlnjaaWT
import Derived.Test.YtlikfpmbcdlnjaaProg
import Derived.Test.YtlikfpmbcdlnjaaWD1
import Derived.Test.YtlikfpmbcdlnjaaWGS1
import Derived.Test.YtlikfpmbcdlnjaaWHO1
import Derived.Test.YtlikfpmbcdlnjaaWJ1
import Derived.Test.YtlikfpmbcdlnjaaWK1
import Derived.Test.YtlikfpmbcdlnjaaWSL1
namespace Go.Proofs.Ytlikfpmbcdlnjaa
open Go.RowKit
set_option maxRecDepth 100000
set_option linter.all false
set_option maxHeartbeats 0
def Lf6_r0:List LOper:=[oF 2]
def Lf6_r1:List LOper:=[om 10 0,oH 11 10,ob 12 .gtr 11 1048576]
def Lf6_r2:List LOper:=[oT 2]
def Lf6_r3:List LOper:=[om 14 0,oK 15 33 [14],om 13 15,oE 16 13 0,oE 17 13 1,oE 18 13 2,oo 3 (.fresh 26 [.nil,.nil]),oS 2 3 16,om 4 17,om 5 18]
def Lf6_r4:List LOper:=[oL 20 2 3,om 21 4,om 22 5,oK 23 34 [20,21,22],om 19 23,oE 24 19 0,oE 25 19 1,oo 6 (.fresh 26 [.nil,.nil]),oS 2 6 24,om 7 25]
def Lf6_r5:List LOper:=[oL 27 2 3,om 28 4,om 29 5,oK 30 35 [27,28,29],om 26 30,oE 31 26 0,oE 32 26 1,oo 8 (.fresh 26 [.nil,.nil]),oS 2 8 31,om 9 32]
def Lf6_r6:List LOper:=[om 33 7,om 34 9,oo 35 (.binb true (.t 33) (.t 34)),om 36 35,og 37 (.load true 2 (.t 6)) 36 false,og 38 (.load true 2 (.t 8)) 36 false,og 39 (.call 20 [(.t 37),(.t 38)]) 36 false,og 40 (.un .not (.t 39)) 36 false,oQ 41 36 40]
def Lf6_r7:List LOper:=[oF 2]
def Lf6_r8:List LOper:=[om 42 7,oU 43 42]
def Lf6_r9:List LOper:=[oo 44 (.call 21 []),om 2 44]
def Lf6_r10:List LOper:=[oL 45 2 6,oK 46 23 [45],om 47 46,og 48 (.load true 2 (.t 3)) 47 true,og 49 (.load true 2 (.t 6)) 47 true,og 50 (.call 25 [(.t 48),(.t 49),(.c (ii (-1)))]) 47 true,oP 51 47 50,om 52 51,og 53 (.fadr 1 (.t 6)) 52 true,og 54 (.load false 1 (.t 53)) 52 true,og 55 (.mv (.t 4)) 52 true,og 56 (.iadr 17 (.t 54) (.t 55)) 52 true,og 57 (.fadr 14 (.t 56)) 52 true,og 58 (.load false 1 (.t 57)) 52 true,og 59 (.mv (.t 5)) 52 true,og 60 (.iadr 3 (.t 58) (.t 59)) 52 true,og 61 (.fadr 0 (.t 60)) 52 true,og 62 (.load false 1 (.t 61)) 52 true,og 63 (.bin .geq (.t 62) (.c (ii 0))) 52 true,oP 64 52 63,om 2 64]
def Lf6:LFun:=⟨65,[(.tmp 2)],(.seq (.reg false Lf6_r0) (.seq (.seq (.reg false Lf6_r1) (.cond (.t 12) (.seq (.reg false Lf6_r2) .ret) .skip)) (.seq (.reg false Lf6_r3) (.seq (.reg false Lf6_r4) (.seq (.reg false Lf6_r5) (.seq (.seq (.reg false Lf6_r6) (.cond (.t 41) (.seq (.reg false Lf6_r7) .ret) .skip)) (.seq (.seq (.reg false Lf6_r8) (.cond (.t 43) (.seq (.reg false Lf6_r9) .ret) .skip)) (.seq (.reg false Lf6_r10) .ret))))))))⟩
theorem low_laws_FnHostFill:lowFun Go.Proofs.Try.prog 6=some Lf6:=by kernel_rfl
noncomputable def F_laws_FnHostFill (x_code:List Int):Option Bool :=
 cond (decide ((1048576:Int)<(((List.length x_code):Nat):Int)))
  (some true)
  (Option.bind (F_spec_DrawHostFill x_code) fun v1 =>
  Option.bind (F_impl_HostFill v1.1 v1.2.1 v1.2.2) fun v2 =>
  Option.bind (F_spec_HostFill v1.1 v1.2.1 v1.2.2) fun v3 =>
  cond (!(v2.2 == v3.2))
   (some false)
   (Option.bind (F_laws_sameHost v2.1 v3.1) fun v4 =>
   cond (!v4)
    (some false)
    (cond (!v2.2)
     (Option.bind (F_laws_alive ) fun v5 =>
     some v5)
     (Option.bind (F_impl_HostOk v2.1) fun v6 =>
     cond v6
      (Option.bind (F_laws_sameViews v1.1 v2.1 (-1:Int)) fun v7 =>
      cond v7
       (grd ((0:Int)≤v1.2.1∧v1.2.1<(((List.length v2.1.Guests):Nat):Int)) (grd ((0:Int)≤v1.2.2∧v1.2.2<(((List.length ((List.getD v2.1.Guests (Int.toNat v1.2.1) default).Pages)):Nat):Int)) (some (decide ((0:Int)≤((List.getD ((List.getD v2.1.Guests (Int.toNat v1.2.1) default).Pages) (Int.toNat v1.2.2) default).Frame))))))
       (some false))
      (some false)))))
theorem laws_FnHostFill_fn {x_code:List Int} {R_:Bool} (hh:F_laws_FnHostFill x_code=some R_):Fn Try.prog 6 [bo (eI .u8) x_code] (.bool R_):=by
 let z3:=(0,bo (eI .u8) x_code); let z4:=(12,bb (decide ((1048576:Int)<(((List.length x_code):Nat):Int)))); let z5:=(2,bb false); let z6:=(3,pp 2); let z7:=(6,pp 5)
 unfold F_laws_FnHostFill at hh
 refine Fn.start low_laws_FnHostFill [0] (E:=sp 65 [z3]) kr (v:=bb R_) (Hr:=[]) (k:=0) kr (sy [0] [] (sp 65 [z3]) [] 0 (Aw.seq (sy [0,12] [] (sp 65 [z3,z4]) [] 0 ?_)))
 rcases cond_some hh with ⟨hb,hh⟩ | ⟨hb,hh⟩
 · exact cT hb (sy [2] [] (sp 65 [(2,bb true)]) [] 0 (Aw.ret (then_r (gvbs hh))))
 refine cF hb (Aw.xskip (fun _ _ _ hq=>then_m hq) (Aw.sreg [3,4,5] [0,1,2] (yj 1  (sp 65 [z3,z4,(14,bo (eI .u8) x_code)]) [] 0 ?_)))
 obtain ⟨v1,hv1,hh⟩:=bind_some hh
 let z8:=(4,ii v1.2.1); let z9:EV:=(48,.agg [sw 0 v1.1.Words,.sref 1 [] 0 (List.length v1.1.Guests) 17]); let z10:=(5,ii v1.2.2); let z11:EV:=(56,.ptr 4 [] (0+(Int.toNat v1.2.1)*17)); let z12:EV:=(57,.ptr 4 [] (0+(Int.toNat v1.2.1)*17+14)); let q1:Root:=⟨53,(fl O_53 v1.1.Guests)⟩; let z13:=(1,some q1); let q2:Root:=⟨3,(fl (eI .i64) v1.1.Words)⟩; let z14:=(0,some q2)
 refine ys (.call 33 [(.t 14)]) (some 15) (op_call (r:=.tup [.agg [.own 3 1 (List.length v1.1.Words) (fl (eI .i64) v1.1.Words),.own 53 17 (List.length v1.1.Guests) (fl O_53 v1.1.Guests)],ii v1.2.1,ii v1.2.2]) (v:=.tup [.agg [sw 0 v1.1.Words,.sref 1 [] 0 (List.length v1.1.Guests) 17],ii v1.2.1,ii v1.2.2]) (Hr:=[z13,z14]) (n':=2) (spec_DrawHostFill_fn hv1) (clz_v (vs:=[bo (eI .u8) x_code]) kr (clz_c (clo_same (clean_bor (cleans_fl cl_eI))) clz_n)) (by simp only [AV.noRef,noRefs,Bool.and_self,noRefs_fl nr_eI,noRefs_fl nr_O_53]) (by simp only [AV.noBor,noBors,Bool.and_self,noBors_fl nb_eI,noBors_fl nb_O_53]) kr ?_)
 let q3:Root:=⟨26,[sw 0 v1.1.Words,.sref 1 [] 0 (List.length v1.1.Guests) 17]⟩; let z15:=(2,some q3)
 refine yt (sp 65 [z6,z8,z10]) [z14,z13,z15] 3 (Aw.sreg [3,4,5,6,7] [0,1,2,3,4,5] (yu 3 [(20,.agg [sw 0 v1.1.Words,.sref 1 [] 0 (List.length v1.1.Guests) 17]),(21,ii v1.2.1),(22,ii v1.2.2)] [z14,z13,z15] 3 ?_))
 obtain ⟨v2,hv2,hh⟩:=bind_some hh
 let z16:=(43,bb (!v2.2)); let z17:EV:=(45,.agg [sw 3 v2.1.Words,.sref 4 [] 0 (List.length v2.1.Guests) 17]); let z18:EV:=(49,.agg [sw 3 v2.1.Words,.sref 4 [] 0 (List.length v2.1.Guests) 17]); let z19:EV:=(54,.sref 4 [] 0 (List.length v2.1.Guests) 17); let z20:=(7,bb v2.2); let z1:=List.getD v2.1.Guests (Int.toNat v1.2.1) default; let z2:=List.getD (z1.Pages) (Int.toNat v1.2.2) default; let q4:Root:=⟨53,(fl O_53 v2.1.Guests)⟩; let z21:=(4,some q4); let q5:Root:=⟨3,(fl (eI .i64) v2.1.Words)⟩; let z22:=(3,some q5)
 refine ys (.call 34 [(.t 20),(.t 21),(.t 22)]) (some 23) (op_call (r:=.tup [.agg [.own 3 1 (List.length v2.1.Words) (fl (eI .i64) v2.1.Words),.own 53 17 (List.length v2.1.Guests) (fl O_53 v2.1.Guests)],bb v2.2]) (v:=.tup [.agg [sw 3 v2.1.Words,.sref 4 [] 0 (List.length v2.1.Guests) 17],bb v2.2]) (Hr:=[z21,z22]) (n':=5) (impl_HostFill_fn hv2) (clz_v (vs:=[.agg [sw 0 v1.1.Words,.sref 1 [] 0 (List.length v1.1.Guests) 17],ii v1.2.1,ii v1.2.2]) kr (clz_c (clo_agg (clos_c (clo_own (c:=(eI .i64)) (xs:=v1.1.Words) (e:=3) eqn len_eI no_eI cl_eI kr) (clos_c (clo_flr (B:=B_53) (xs:=v1.1.Guests) (e:=53) oc_O_53 len_O_53 eqn kr) clos_n))) (cz1 (cz1 clz_n)))) (by simp only [AV.noRef,noRefs,Bool.and_self,noRefs_fl nr_eI,noRefs_fl nr_O_53]) (by simp only [AV.noBor,noBors,Bool.and_self,noBors_fl nb_eI,noBors_fl nb_O_53]) kr ?_)
 let q6:Root:=⟨26,[sw 3 v2.1.Words,.sref 4 [] 0 (List.length v2.1.Guests) 17]⟩; let z23:=(5,some q6)
 refine yt (sp 65 [z6,z8,z10,z7,z20]) [z14,z13,z15,z22,z21,z23] 6 (Aw.sreg [3,4,5,6,7,8,9] [0,1,2,3,4,5,6,7,8] (yu 3 [(27,.agg [sw 0 v1.1.Words,.sref 1 [] 0 (List.length v1.1.Guests) 17]),(28,ii v1.2.1),(29,ii v1.2.2)] [z14,z13,z15,z22,z21,z23] 6 ?_))
 obtain ⟨v3,hv3,hh⟩:=bind_some hh
 let q7:Root:=⟨53,(fl O_53 v3.1.Guests)⟩; let q8:Root:=⟨3,(fl (eI .i64) v3.1.Words)⟩
 refine ys (.call 35 [(.t 27),(.t 28),(.t 29)]) (some 30) (op_call (r:=.tup [.agg [.own 3 1 (List.length v3.1.Words) (fl (eI .i64) v3.1.Words),.own 53 17 (List.length v3.1.Guests) (fl O_53 v3.1.Guests)],bb v3.2]) (v:=.tup [.agg [sw 6 v3.1.Words,.sref 7 [] 0 (List.length v3.1.Guests) 17],bb v3.2]) (Hr:=[(7,some q7),(6,some q8)]) (n':=8) (spec_HostFill_fn hv3) (clz_v (vs:=[.agg [sw 0 v1.1.Words,.sref 1 [] 0 (List.length v1.1.Guests) 17],ii v1.2.1,ii v1.2.2]) kr (clz_c (clo_agg (clos_c (clo_own (c:=(eI .i64)) (xs:=v1.1.Words) (e:=3) eqn len_eI no_eI cl_eI kr) (clos_c (clo_flr (B:=B_53) (xs:=v1.1.Guests) (e:=53) oc_O_53 len_O_53 eqn kr) clos_n))) (cz1 (cz1 clz_n)))) (by simp only [AV.noRef,noRefs,Bool.and_self,noRefs_fl nr_eI,noRefs_fl nr_O_53]) (by simp only [AV.noBor,noBors,Bool.and_self,noBors_fl nb_eI,noBors_fl nb_O_53]) kr ?_)
 let q9:Root:=⟨26,[sw 6 v3.1.Words,.sref 7 [] 0 (List.length v3.1.Guests) 17]⟩
 refine yt (sp 65 [z6,z8,z10,z7,z20,(8,pp 8),(9,bb v3.2)]) [z14,z13,z15,z22,z21,z23,(6,some q8),(7,some q7),(8,some q9)] 9 (Aw.seq (Aw.sreg [3,4,5,6,7,41] [0,1,2,3,4,5] (yj 4  (sp 65 [z6,z8,z10,z7,z20,(8,pp 8),(9,bb v3.2),(33,bb v2.2),(34,bb v3.2),(35,bb (!(v2.2 == v3.2))),(36,bb (!(v2.2 == v3.2)))]) [z14,z13,z15,z22,z21,z23,(6,some q8),(7,some q7),(8,some q9)] 9 ?_)))
 rcases cond_some hh with ⟨hb,hh⟩ | ⟨hb,hh⟩
 · exact yb 35 hb (yb 36 hb (yt (sp 65 [z6,z8,z10,z7,z20,(41,bb true)]) [z14,z13,z15,z22,z21,z23] 9 (cT rfl (sy [2] [] (sp 65 [z5]) [] 9 (Aw.ret (then_r (gvbs hh)))))))
 refine yb 35 hb (yb 36 hb (yu 2 [(35,bb false),(36,bb false),(37,.agg [sw 3 v2.1.Words,.sref 4 [] 0 (List.length v2.1.Guests) 17]),(38,.agg [sw 6 v3.1.Words,.sref 7 [] 0 (List.length v3.1.Guests) 17])] [z14,z13,z15,z22,z21,z23,(6,some q8),(7,some q7),(8,some q9)] 9 ?_))
 obtain ⟨v4,hv4,hh⟩:=bind_some hh
 refine yg (.call 20 [(.t 37),(.t 38)]) (some 39) 36 false (op_call (r:=bb v4) (v:=bb v4) (Hr:=[]) (n':=9) (laws_sameHost_fn hv4) (clz_v (vs:=[.agg [sw 3 v2.1.Words,.sref 4 [] 0 (List.length v2.1.Guests) 17],.agg [sw 6 v3.1.Words,.sref 7 [] 0 (List.length v3.1.Guests) 17]]) kr (clz_c (clo_agg (clos_c (clo_own (c:=(eI .i64)) (xs:=v2.1.Words) (e:=3) eqn len_eI no_eI cl_eI kr) (clos_c (clo_flr (B:=B_53) (xs:=v2.1.Guests) (e:=53) oc_O_53 len_O_53 eqn kr) clos_n))) (clz_c (clo_agg (clos_c (clo_own (c:=(eI .i64)) (xs:=v3.1.Words) (e:=3) eqn len_eI no_eI cl_eI kr) (clos_c (clo_flr (B:=B_53) (xs:=v3.1.Guests) (e:=53) oc_O_53 len_O_53 eqn kr) clos_n))) clz_n))) rfl rfl kr ?_)
 refine yt (sp 65 [z6,z8,z10,z7,z20,(41,bb (!v4))]) [z14,z13,z15,z22,z21,z23] 9 ?_
 rcases cond_some hh with ⟨hb,hh⟩ | ⟨hb,hh⟩
 · exact cT hb (sy [2] [] (sp 65 [z5]) [] 9 (Aw.ret (then_r (gvbs hh))))
 refine cF hb (Aw.xskip (fun _ _ _ hq=>then_m hq) (Aw.seq (sy [3,4,5,6,43] [0,1,2,3,4,5] (sp 65 [z6,z8,z10,z7,z16]) [z14,z13,z15,z22,z21,z23] 9 ?_)))
 rcases cond_some hh with ⟨hb,hh⟩ | ⟨hb,hh⟩
 · refine cT hb (Aw.sreg [2] [] ?_)
   obtain ⟨v5,hv5,hh⟩:=bind_some hh
   refine ys (.call 21 []) (some 44) (oc (laws_alive_fn hv5) ?_)
   exact yt (sp 65 [(2,bb v5)]) [] 9 (Aw.ret (then_r (gvbs hh)))
 refine cF hb (Aw.xskip (fun _ _ _ hq=>then_m hq) (Aw.sreg [2] [] (yj 1  (sp 65 [z6,z8,z10,z7,z16,z17]) [z14,z13,z15,z22,z21,z23] 9 ?_)))
 obtain ⟨v6,hv6,hh⟩:=bind_some hh
 refine ys (.call 23 [(.t 45)]) (some 46) (op_call (r:=bb v6) (v:=bb v6) (Hr:=[]) (n':=9) (impl_HostOk_fn hv6) (clz_v (vs:=[.agg [sw 3 v2.1.Words,.sref 4 [] 0 (List.length v2.1.Guests) 17]]) kr (clz_c (clo_agg (clos_c (clo_own (c:=(eI .i64)) (xs:=v2.1.Words) (e:=3) eqn len_eI no_eI cl_eI kr) (clos_c (clo_flr (B:=B_53) (xs:=v2.1.Guests) (e:=53) oc_O_53 len_O_53 eqn kr) clos_n))) clz_n)) rfl rfl kr ?_)
 refine yu 1 [(46,bb v6),(47,bb v6)] [z14,z13,z15,z22,z21,z23] 9 ?_
 rcases cond_sf hh with ⟨hb,hh⟩ | ⟨hb,hh⟩
 · exact yb 46 hb (yb 47 hb (yt (sp 65 [z5]) [] 9 (Aw.ret (gvbs hh))))
 refine yb 46 hb (yb 47 hb (yu 2 [(46,bb true),(47,bb true),z9,z18] [z14,z13,z15,z22,z21,z23] 9 ?_))
 obtain ⟨v7,hv7,hh⟩:=bind_some hh
 refine yg (.call 25 [(.t 48),(.t 49),(.c (ii (-1)))]) (some 50) 47 true (op_call (r:=bb v7) (v:=bb v7) (Hr:=[]) (n':=9) (laws_sameViews_fn hv7) (clz_v (vs:=[.agg [sw 0 v1.1.Words,.sref 1 [] 0 (List.length v1.1.Guests) 17],.agg [sw 3 v2.1.Words,.sref 4 [] 0 (List.length v2.1.Guests) 17],ii (-1)]) kr (clz_c (clo_agg (clos_c (clo_own (c:=(eI .i64)) (xs:=v1.1.Words) (e:=3) eqn len_eI no_eI cl_eI kr) (clos_c (clo_flr (B:=B_53) (xs:=v1.1.Guests) (e:=53) oc_O_53 len_O_53 eqn kr) clos_n))) (clz_c (clo_agg (clos_c (clo_own (c:=(eI .i64)) (xs:=v2.1.Words) (e:=3) eqn len_eI no_eI cl_eI kr) (clos_c (clo_flr (B:=B_53) (xs:=v2.1.Guests) (e:=53) oc_O_53 len_O_53 eqn kr) clos_n))) (cz1 clz_n)))) rfl rfl kr ?_)
 refine yu 2 [(50,bb v7),(51,bb v7),(52,bb v7)] [z14,z13,z15,z22,z21,z23] 9 ?_
 rcases cond_sf hh with ⟨hb,hh⟩ | ⟨hb,hh⟩
 · exact yb 50 hb (yb 51 hb (yb 52 hb (yt (sp 65 [z5]) [] 9 (Aw.ret (gvbs hh)))))
 refine yb 50 hb (yb 51 hb (yb 52 hb ?_))
 obtain ⟨hg4,hh⟩:=grd_some hh
 refine yjc 5 [(0:Int)≤v1.2.1∧v1.2.1<(((List.length v2.1.Guests):Nat):Int)] (sp 65 [z6,z8,z10,z7,z16,z17,(46,bb true),(47,bb true),z9,z18,(50,bb true),(51,bb true),(52,bb true),(53,.ptr 5 [] 1),z19,(55,ii v1.2.1),z11,z12]) [z14,z13,z15,z22,z21,z23] 9 (.cons hg4 .nil) (yg (.load false 1 (.t 57)) (some 58) 52 true (op_load (c:=O_53) (xs:=v2.1.Guests) (e:=53) (r:=4) (π:=[]) (o:=0+(Int.toNat v1.2.1)*17+14) (i:=(Int.toNat v1.2.1)) (off:=14) (v:=.sref 4 [0+(Int.toNat v1.2.1)*17+14+0] 0 (List.length (z1.Pages)) 3) len_O_53 kr kr ltn ltn dd kr ?_))
 obtain ⟨hg3,hh⟩:=grd_some hh
 refine yjc 3 [(0:Int)≤v1.2.2∧v1.2.2<(((List.length (z1.Pages)):Nat):Int)] (sp 65 [z6,z8,z10,z7,z16,z17,(46,bb true),(47,bb true),z9,z18,(50,bb true),(51,bb true),(52,bb true),(53,.ptr 5 [] 1),z19,(55,ii v1.2.1),z11,z12,(58,.sref 4 [0+(Int.toNat v1.2.1)*17+14+0] 0 (List.length (z1.Pages)) 3),(59,ii v1.2.2),(60,.ptr 4 [0+(Int.toNat v1.2.1)*17+14+0] (0+(Int.toNat v1.2.2)*3)),(61,.ptr 4 [0+(Int.toNat v1.2.1)*17+14+0] (0+(Int.toNat v1.2.2)*3+0))]) [z14,z13,z15,z22,z21,z23] 9 (.cons hg3 .nil) (yg (.load false 1 (.t 61)) (some 62) 52 true (op_load (c:=C_50) (xs:=z1.Pages) (e:=50) (r:=4) (π:=[0+(Int.toNat v1.2.1)*17+14+0]) (o:=0+(Int.toNat v1.2.2)*3+0) (i:=(Int.toNat v1.2.2)) (off:=0) (v:=ii (z2.Frame)) len_C_50 kr (get_fl (e:=53) (e':=50) (sz':=3) (m':=(List.length (z1.Pages))) (cs':=(fl C_50 (z1.Pages))) (c:=O_53) (xs:=v2.1.Guests) (i:=(Int.toNat v1.2.1)) (off:=14) len_O_53 kr ltn ltn dd rfl kr) ltn ltn dd kr ?_))
 exact yt (sp 65 [(2,bb (decide ((0:Int)≤(z2.Frame))))]) [] 9 (Aw.ret (gvbs hh))
end Go.Proofs.Ytlikfpmbcdlnjaa
