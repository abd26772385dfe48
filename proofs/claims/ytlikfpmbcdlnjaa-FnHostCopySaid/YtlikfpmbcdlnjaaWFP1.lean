/- Plain functions of the program, and that it hands back what they say. Made by program. -/
import Derived.Test.YtlikfpmbcdlnjaaWT
import Derived.Test.YtlikfpmbcdlnjaaProg
import Derived.Test.YtlikfpmbcdlnjaaWD1
import Derived.Test.YtlikfpmbcdlnjaaWGS1
import Derived.Test.YtlikfpmbcdlnjaaWHO1
import Derived.Test.YtlikfpmbcdlnjaaWJ1
import Derived.Test.YtlikfpmbcdlnjaaWK1
import Derived.Test.YtlikfpmbcdlnjaaWSP1
namespace Go.Proofs.Ytlikfpmbcdlnjaa
open Go.RowKit
set_option maxRecDepth 100000
set_option linter.all false
set_option maxHeartbeats 0
def Lf7_r0:List LOper:=[oF 2]
def Lf7_r1:List LOper:=[om 13 0,oH 14 13,ob 15 .gtr 14 1048576]
def Lf7_r2:List LOper:=[oT 2]
def Lf7_r3:List LOper:=[om 17 0,oK 18 36 [17],om 16 18,oE 19 16 0,oE 20 16 1,oE 21 16 2,oo 3 (.fresh 26 [.nil,.nil]),oS 2 3 19,om 4 20,om 5 21]
def Lf7_r4:List LOper:=[oL 23 2 3,om 24 4,om 25 5,oK 26 37 [23,24,25],om 22 26,oE 27 22 0,oE 28 22 1,oo 6 (.fresh 26 [.nil,.nil]),oS 2 6 27,om 7 28]
def Lf7_r5:List LOper:=[oL 30 2 3,om 31 4,om 32 5,oK 33 38 [30,31,32],om 29 33,oE 34 29 0,oE 35 29 1,oo 8 (.fresh 26 [.nil,.nil]),oS 2 8 34,om 9 35]
def Lf7_r6:List LOper:=[om 36 7,om 37 9,oo 38 (.binb true (.t 36) (.t 37)),om 39 38,og 40 (.load true 2 (.t 6)) 39 false,og 41 (.load true 2 (.t 8)) 39 false,og 42 (.call 20 [(.t 40),(.t 41)]) 39 false,og 43 (.un .not (.t 42)) 39 false,oQ 44 39 43]
def Lf7_r7:List LOper:=[oF 2]
def Lf7_r8:List LOper:=[om 45 7,oU 46 45]
def Lf7_r9:List LOper:=[oo 47 (.call 21 []),om 2 47]
def Lf7_r10:List LOper:=[oN 10 0]
def Lf7_r11:List LOper:=[oN 11 0]
def Lf7_r12:List LOper:=[om 48 11,ob 49 .lss 48 3]
def Lf7_r13:List LOper:=[oN 12 0]
def Lf7_r14:List LOper:=[om 52 12,oA 53 1 6,ol 54 53,om 55 11,oi 56 17 54 55,oA 57 14 56,ol 58 57,oH 59 58,oB 60 .lss 52 59]
def Lf7_r15:List LOper:=[oA 63 1 6,ol 64 63,om 65 11,oi 66 17 64 65,oA 67 14 66,ol 68 67,om 69 12,oi 70 3 68 69,oA 71 0 70,ol 72 71,oA 73 1 6,ol 74 73,om 75 4,oi 76 17 74 75,oA 77 14 76,ol 78 77,om 79 5,oi 80 3 78 79,oA 81 0 80,ol 82 81,oB 83 .eql 72 82]
def Lf7_r16:List LOper:=[om 84 10,ob 85 .add 84 1,om 10 85]
def Lf7_r17:List LOper:=[om 61 12,ob 62 .add 61 1,om 12 62]
def Lf7_l18:LCode:=(.seq (.seq (.reg false Lf7_r14) (.cond (.t 60) .skip (.exit 2))) (.seq (.block 3 (.seq (.reg true Lf7_r15) (.cond (.t 83) (.reg false Lf7_r16) .skip))) (.reg false Lf7_r17)))
def Lf7_r19:List LOper:=[om 50 11,ob 51 .add 50 1,om 11 51]
def Lf7_l20:LCode:=(.seq (.seq (.reg false Lf7_r12) (.cond (.t 49) .skip (.exit 0))) (.seq (.block 1 (.seq (.reg false Lf7_r13) (.block 2 (.loop Lf7_l18)))) (.reg false Lf7_r19)))
def Lf7_r21:List LOper:=[oL 86 2 6,oK 87 23 [86],om 88 87,og 89 (.load true 2 (.t 3)) 88 true,og 90 (.load true 2 (.t 6)) 88 true,og 91 (.call 25 [(.t 89),(.t 90),(.c (ii (-1)))]) 88 true,oP 92 88 91,om 93 92,og 94 (.fadr 1 (.t 6)) 93 true,og 95 (.load false 1 (.t 94)) 93 true,og 96 (.mv (.t 4)) 93 true,og 97 (.iadr 17 (.t 95) (.t 96)) 93 true,og 98 (.fadr 14 (.t 97)) 93 true,og 99 (.load false 1 (.t 98)) 93 true,og 100 (.mv (.t 5)) 93 true,og 101 (.iadr 3 (.t 99) (.t 100)) 93 true,og 102 (.fadr 1 (.t 101)) 93 true,og 103 (.load false 1 (.t 102)) 93 true,oP 104 93 103,om 105 104,og 106 (.mv (.t 10)) 105 true,og 107 (.bin .eql (.t 106) (.c (ii 1))) 105 true,oP 108 105 107,om 2 108]
def Lf7:LFun:=⟨109,[(.tmp 2)],(.seq (.reg false Lf7_r0) (.seq (.seq (.reg false Lf7_r1) (.cond (.t 15) (.seq (.reg false Lf7_r2) .ret) .skip)) (.seq (.reg false Lf7_r3) (.seq (.reg false Lf7_r4) (.seq (.reg false Lf7_r5) (.seq (.seq (.reg false Lf7_r6) (.cond (.t 44) (.seq (.reg false Lf7_r7) .ret) .skip)) (.seq (.seq (.reg false Lf7_r8) (.cond (.t 46) (.seq (.reg false Lf7_r9) .ret) .skip)) (.seq (.reg false Lf7_r10) (.seq (.seq (.reg false Lf7_r11) (.block 0 (.loop Lf7_l20))) (.seq (.reg false Lf7_r21) .ret))))))))))⟩
theorem low_laws_FnHostCopy:lowFun Go.Proofs.Try.prog 7=some Lf7:=by kernel_rfl
noncomputable def F_laws_FnHostCopy_j6 (v1:DHost × Int × Int) (v2:DHost × Bool) (s6:Int):Option Bool :=
 Option.bind (F_impl_HostOk v2.1) fun v7 =>
 cond v7
  (Option.bind (F_laws_sameViews v1.1 v2.1 (-1:Int)) fun v8 =>
  cond v8
   (grd ((0:Int)≤v1.2.1∧v1.2.1<(((List.length v2.1.Guests):Nat):Int)) (grd ((0:Int)≤v1.2.2∧v1.2.2<(((List.length ((List.getD v2.1.Guests (Int.toNat v1.2.1) default).Pages)):Nat):Int)) (cond ((List.getD ((List.getD v2.1.Guests (Int.toNat v1.2.1) default).Pages) (Int.toNat v1.2.2) default).Write)
    (some (decide (s6=(1:Int))))
    (some false))))
   (some false))
  (some false)
noncomputable def F_laws_FnHostCopy_j10 (s9:Int × Int) (s10:Int):Option (LO (Int × Int) (JO Int Bool)) :=
 some (.next (s10,(w64 (s9.2+(1:Int)))))
noncomputable def F_laws_FnHostCopy_j12 (s11:Int × Int) (s12:Int):Option (LO (Int × Int) (JO Int (LO (Int × Int) (JO Int Bool)))) :=
 some (.next (s12,(w64 (s11.2+(1:Int)))))
noncomputable def F_laws_FnHostCopy_l11 (v1:DHost × Int × Int) (v2:DHost × Bool) (s9:Int × Int) (s11:Int × Int):Option (LO (Int × Int) (JO Int (LO (Int × Int) (JO Int Bool)))) :=
 grd ((0:Int)≤s9.2∧s9.2<(((List.length v2.1.Guests):Nat):Int)) (cond (decide (s11.2<(((List.length ((List.getD v2.1.Guests (Int.toNat s9.2) default).Pages)):Nat):Int)))
  (Option.bind (grd ((0:Int)≤s9.2∧s9.2<(((List.length v2.1.Guests):Nat):Int)) (grd ((0:Int)≤s11.2∧s11.2<(((List.length ((List.getD v2.1.Guests (Int.toNat s9.2) default).Pages)):Nat):Int)) (grd ((0:Int)≤v1.2.1∧v1.2.1<(((List.length v2.1.Guests):Nat):Int)) (grd ((0:Int)≤v1.2.2∧v1.2.2<(((List.length ((List.getD v2.1.Guests (Int.toNat v1.2.1) default).Pages)):Nat):Int)) (cond (decide (((List.getD ((List.getD v2.1.Guests (Int.toNat s9.2) default).Pages) (Int.toNat s11.2) default).Frame)=((List.getD ((List.getD v2.1.Guests (Int.toNat v1.2.1) default).Pages) (Int.toNat v1.2.2) default).Frame)))
   (some (.go (w64 (s11.1+(1:Int)))))
   (some (.go s11.1))))))) fun j12 =>
   JO.run j12 (F_laws_FnHostCopy_j12 s11))
  (some (.ret (.go s11.1))))
noncomputable def F_laws_FnHostCopy_l9 (v1:DHost × Int × Int) (v2:DHost × Bool) (s9:Int × Int):Option (LO (Int × Int) (JO Int Bool)) :=
 cond (decide (s9.2<(3:Int)))
  (Option.bind (Option.bind (iter (F_laws_FnHostCopy_l11 v1 v2 s9) (s9.1,(0:Int))) LO.val) fun j10 =>
   JO.run j10 (F_laws_FnHostCopy_j10 s9))
  (some (.ret (.go s9.1)))
noncomputable def F_laws_FnHostCopy (x_code:List Int):Option Bool :=
 cond (decide ((1048576:Int)<(((List.length x_code):Nat):Int)))
  (some true)
  (Option.bind (F_spec_DrawHostCopy x_code) fun v1 =>
  Option.bind (F_impl_HostCopy v1.1 v1.2.1 v1.2.2) fun v2 =>
  Option.bind (F_spec_HostCopy v1.1 v1.2.1 v1.2.2) fun v3 =>
  cond (!(v2.2 == v3.2))
   (some false)
   (Option.bind (F_laws_sameHost v2.1 v3.1) fun v4 =>
   cond (!v4)
    (some false)
    (cond (!v2.2)
     (Option.bind (F_laws_alive ) fun v5 =>
     some v5)
     (Option.bind (Option.bind (iter (F_laws_FnHostCopy_l9 v1 v2) ((0:Int),(0:Int))) LO.val) fun j6 =>
      JO.run j6 (F_laws_FnHostCopy_j6 v1 v2)))))
theorem laws_FnHostCopy_fn {x_code:List Int} {R_:Bool} (hh:F_laws_FnHostCopy x_code=some R_):Fn Try.prog 7 [bo (eI .u8) x_code] (.bool R_):=by
 let z5:=(0,bo (eI .u8) x_code); let z6:=(15,bb (decide ((1048576:Int)<(((List.length x_code):Nat):Int)))); let z7:=(2,bb false); let z8:=(3,pp 0); let z9:=(3,pp 2); let z10:=(6,pp 3); let z11:=(6,pp 5); let z12:EV:=(63,.ptr 3 [] 1)
 unfold F_laws_FnHostCopy at hh
 refine Fn.start low_laws_FnHostCopy [0] (E:=sp 109 [z5]) kr (v:=bb R_) (Hr:=[]) (k:=0) kr (sy [0] [] (sp 109 [z5]) [] 0 (Aw.seq (sy [0,15] [] (sp 109 [z5,z6]) [] 0 ?_)))
 rcases cond_some hh with ⟨hb,hh⟩ | ⟨hb,hh⟩
 · exact cT hb (sy [2] [] (sp 109 [(2,bb true)]) [] 0 (Aw.ret (then_r (gvbs hh))))
 refine cF hb (Aw.xskip (fun _ _ _ hq=>then_m hq) (Aw.sreg [3,4,5] [0,1,2] (yj 1  (sp 109 [z5,z6,(17,bo (eI .u8) x_code)]) [] 0 ?_)))
 obtain ⟨v1,hv1,hh⟩:=bind_some hh
 let z13:=(4,ii v1.2.1); let z14:=(5,ii v1.2.2); let z15:EV:=(76,.ptr 5 [] (0+(Int.toNat v1.2.1)*17)); let z16:EV:=(77,.ptr 5 [] (0+(Int.toNat v1.2.1)*17+14)); let z17:EV:=(89,.agg [sw 1 v1.1.Words,.sref 2 [] 0 (List.length v1.1.Guests) 17]); let z18:EV:=(97,.ptr 5 [] (0+(Int.toNat v1.2.1)*17)); let z19:EV:=(98,.ptr 5 [] (0+(Int.toNat v1.2.1)*17+14)); let q1:Root:=⟨53,(fl O_53 v1.1.Guests)⟩; let z20:=(1,some q1); let z21:=(2,some q1); let q2:Root:=⟨3,(fl (eI .i64) v1.1.Words)⟩; let z22:=(0,some q2); let z23:=(1,some q2)
 refine ys (.call 36 [(.t 17)]) (some 18) (op_call (r:=.tup [.agg [.own 3 1 (List.length v1.1.Words) (fl (eI .i64) v1.1.Words),.own 53 17 (List.length v1.1.Guests) (fl O_53 v1.1.Guests)],ii v1.2.1,ii v1.2.2]) (v:=.tup [.agg [sw 0 v1.1.Words,.sref 1 [] 0 (List.length v1.1.Guests) 17],ii v1.2.1,ii v1.2.2]) (Hr:=[z20,z22]) (n':=2) (spec_DrawHostCopy_fn hv1) (clz_v (vs:=[bo (eI .u8) x_code]) kr (clz_c (clo_same (clean_bor (cleans_fl cl_eI))) clz_n)) (by simp only [AV.noRef,noRefs,Bool.and_self,noRefs_fl nr_eI,noRefs_fl nr_O_53]) (by simp only [AV.noBor,noBors,Bool.and_self,noBors_fl nb_eI,noBors_fl nb_O_53]) kr ?_)
 let q3:Root:=⟨26,[sw 0 v1.1.Words,.sref 1 [] 0 (List.length v1.1.Guests) 17]⟩; let z24:=(2,some q3)
 refine yt (sp 109 [z9,z13,z14]) [z22,z20,z24] 3 (Aw.sreg [3,4,5,6,7] [0,1,2,3,4,5] (yu 3 [(23,.agg [sw 0 v1.1.Words,.sref 1 [] 0 (List.length v1.1.Guests) 17]),(24,ii v1.2.1),(25,ii v1.2.2)] [z22,z20,z24] 3 ?_))
 obtain ⟨v2,hv2,hh⟩:=bind_some hh
 let z25:EV:=(64,.sref 5 [] 0 (List.length v2.1.Guests) 17); let z26:=(7,bb v2.2); let z27:EV:=(74,.sref 5 [] 0 (List.length v2.1.Guests) 17); let z28:EV:=(86,.agg [sw 4 v2.1.Words,.sref 5 [] 0 (List.length v2.1.Guests) 17]); let z29:EV:=(90,.agg [sw 4 v2.1.Words,.sref 5 [] 0 (List.length v2.1.Guests) 17]); let z30:EV:=(95,.sref 5 [] 0 (List.length v2.1.Guests) 17); let z1:=List.getD v2.1.Guests (Int.toNat v1.2.1) default; let z3:=List.getD (z1.Pages) (Int.toNat v1.2.2) default; let q4:Root:=⟨53,(fl O_53 v2.1.Guests)⟩; let z31:=(4,some q4); let z32:=(5,some q4); let q5:Root:=⟨3,(fl (eI .i64) v2.1.Words)⟩; let z33:=(3,some q5); let z34:=(4,some q5)
 refine ys (.call 37 [(.t 23),(.t 24),(.t 25)]) (some 26) (op_call (r:=.tup [.agg [.own 3 1 (List.length v2.1.Words) (fl (eI .i64) v2.1.Words),.own 53 17 (List.length v2.1.Guests) (fl O_53 v2.1.Guests)],bb v2.2]) (v:=.tup [.agg [sw 3 v2.1.Words,.sref 4 [] 0 (List.length v2.1.Guests) 17],bb v2.2]) (Hr:=[z31,z33]) (n':=5) (impl_HostCopy_fn hv2) (clz_v (vs:=[.agg [sw 0 v1.1.Words,.sref 1 [] 0 (List.length v1.1.Guests) 17],ii v1.2.1,ii v1.2.2]) kr (clz_c (clo_agg (clos_c (clo_own (c:=(eI .i64)) (xs:=v1.1.Words) (e:=3) eqn len_eI no_eI cl_eI kr) (clos_c (clo_flr (B:=B_53) (xs:=v1.1.Guests) (e:=53) oc_O_53 len_O_53 eqn kr) clos_n))) (cz1 (cz1 clz_n)))) (by simp only [AV.noRef,noRefs,Bool.and_self,noRefs_fl nr_eI,noRefs_fl nr_O_53]) (by simp only [AV.noBor,noBors,Bool.and_self,noBors_fl nb_eI,noBors_fl nb_O_53]) kr ?_)
 let q6:Root:=⟨26,[sw 3 v2.1.Words,.sref 4 [] 0 (List.length v2.1.Guests) 17]⟩; let z35:=(5,some q6)
 refine yt (sp 109 [z9,z13,z14,z11,z26]) [z22,z20,z24,z33,z31,z35] 6 (Aw.sreg [3,4,5,6,7,8,9] [0,1,2,3,4,5,6,7,8] (yu 3 [(30,.agg [sw 0 v1.1.Words,.sref 1 [] 0 (List.length v1.1.Guests) 17]),(31,ii v1.2.1),(32,ii v1.2.2)] [z22,z20,z24,z33,z31,z35] 6 ?_))
 obtain ⟨v3,hv3,hh⟩:=bind_some hh
 let q7:Root:=⟨53,(fl O_53 v3.1.Guests)⟩; let q8:Root:=⟨3,(fl (eI .i64) v3.1.Words)⟩
 refine ys (.call 38 [(.t 30),(.t 31),(.t 32)]) (some 33) (op_call (r:=.tup [.agg [.own 3 1 (List.length v3.1.Words) (fl (eI .i64) v3.1.Words),.own 53 17 (List.length v3.1.Guests) (fl O_53 v3.1.Guests)],bb v3.2]) (v:=.tup [.agg [sw 6 v3.1.Words,.sref 7 [] 0 (List.length v3.1.Guests) 17],bb v3.2]) (Hr:=[(7,some q7),(6,some q8)]) (n':=8) (spec_HostCopy_fn hv3) (clz_v (vs:=[.agg [sw 0 v1.1.Words,.sref 1 [] 0 (List.length v1.1.Guests) 17],ii v1.2.1,ii v1.2.2]) kr (clz_c (clo_agg (clos_c (clo_own (c:=(eI .i64)) (xs:=v1.1.Words) (e:=3) eqn len_eI no_eI cl_eI kr) (clos_c (clo_flr (B:=B_53) (xs:=v1.1.Guests) (e:=53) oc_O_53 len_O_53 eqn kr) clos_n))) (cz1 (cz1 clz_n)))) (by simp only [AV.noRef,noRefs,Bool.and_self,noRefs_fl nr_eI,noRefs_fl nr_O_53]) (by simp only [AV.noBor,noBors,Bool.and_self,noBors_fl nb_eI,noBors_fl nb_O_53]) kr ?_)
 let q9:Root:=⟨26,[sw 6 v3.1.Words,.sref 7 [] 0 (List.length v3.1.Guests) 17]⟩
 refine yt (sp 109 [z9,z13,z14,z11,z26,(8,pp 8),(9,bb v3.2)]) [z22,z20,z24,z33,z31,z35,(6,some q8),(7,some q7),(8,some q9)] 9 (Aw.seq (Aw.sreg [3,4,5,6,7,44] [0,1,2,3,4,5] (yj 4  (sp 109 [z9,z13,z14,z11,z26,(8,pp 8),(9,bb v3.2),(36,bb v2.2),(37,bb v3.2),(38,bb (!(v2.2 == v3.2))),(39,bb (!(v2.2 == v3.2)))]) [z22,z20,z24,z33,z31,z35,(6,some q8),(7,some q7),(8,some q9)] 9 ?_)))
 rcases cond_some hh with ⟨hb,hh⟩ | ⟨hb,hh⟩
 · exact yb 38 hb (yb 39 hb (yt (sp 109 [z9,z13,z14,z11,z26,(44,bb true)]) [z22,z20,z24,z33,z31,z35] 9 (cT rfl (sy [2] [] (sp 109 [z7]) [] 9 (Aw.ret (then_r (gvbs hh)))))))
 refine yb 38 hb (yb 39 hb (yu 2 [(38,bb false),(39,bb false),(40,.agg [sw 3 v2.1.Words,.sref 4 [] 0 (List.length v2.1.Guests) 17]),(41,.agg [sw 6 v3.1.Words,.sref 7 [] 0 (List.length v3.1.Guests) 17])] [z22,z20,z24,z33,z31,z35,(6,some q8),(7,some q7),(8,some q9)] 9 ?_))
 obtain ⟨v4,hv4,hh⟩:=bind_some hh
 refine yg (.call 20 [(.t 40),(.t 41)]) (some 42) 39 false (op_call (r:=bb v4) (v:=bb v4) (Hr:=[]) (n':=9) (laws_sameHost_fn hv4) (clz_v (vs:=[.agg [sw 3 v2.1.Words,.sref 4 [] 0 (List.length v2.1.Guests) 17],.agg [sw 6 v3.1.Words,.sref 7 [] 0 (List.length v3.1.Guests) 17]]) kr (clz_c (clo_agg (clos_c (clo_own (c:=(eI .i64)) (xs:=v2.1.Words) (e:=3) eqn len_eI no_eI cl_eI kr) (clos_c (clo_flr (B:=B_53) (xs:=v2.1.Guests) (e:=53) oc_O_53 len_O_53 eqn kr) clos_n))) (clz_c (clo_agg (clos_c (clo_own (c:=(eI .i64)) (xs:=v3.1.Words) (e:=3) eqn len_eI no_eI cl_eI kr) (clos_c (clo_flr (B:=B_53) (xs:=v3.1.Guests) (e:=53) oc_O_53 len_O_53 eqn kr) clos_n))) clz_n))) rfl rfl kr ?_)
 refine yt (sp 109 [z9,z13,z14,z11,z26,(44,bb (!v4))]) [z22,z20,z24,z33,z31,z35] 9 ?_
 rcases cond_some hh with ⟨hb,hh⟩ | ⟨hb,hh⟩
 · exact cT hb (sy [2] [] (sp 109 [z7]) [] 9 (Aw.ret (then_r (gvbs hh))))
 refine cF hb (Aw.xskip (fun _ _ _ hq=>then_m hq) (Aw.seq (sy [3,4,5,6,46] [0,1,2,3,4,5] (sp 109 [z9,z13,z14,z11,(46,bb (!v2.2))]) [z22,z20,z24,z33,z31,z35] 9 ?_)))
 rcases cond_some hh with ⟨hb,hh⟩ | ⟨hb,hh⟩
 · refine cT hb (Aw.sreg [2] [] ?_)
   obtain ⟨v5,hv5,hh⟩:=bind_some hh
   refine ys (.call 21 []) (some 47) (oc (laws_alive_fn hv5) ?_)
   exact yt (sp 109 [(2,bb v5)]) [] 9 (Aw.ret (then_r (gvbs hh)))
 refine cF hb (Aw.xskip (fun _ _ _ hq=>then_m hq) (sy [3,4,5,6,10] [0,1,2,3,4,5] (sp 109 [z9,z13,z14,z11,(10,ii 0)]) [z22,z20,z24,z33,z31,z35] 9 ?_))
 obtain ⟨j6,hh,hk6⟩:=bind_some hh
 refine Aw.join (S:=Int) (fun s6=>sp 109 [(3,pp 0),(4,ii v1.2.1),(5,ii v1.2.2),(6,pp 3),(10,ii s6)]) (fun s6=>[(0,some ⟨26,[sw 1 v1.1.Words,.sref 2 [] 0 (List.length v1.1.Guests) 17]⟩),(1,some ⟨3,(fl (eI .i64) v1.1.Words)⟩),(2,some ⟨53,(fl O_53 v1.1.Guests)⟩),(3,some ⟨26,[sw 4 v2.1.Words,.sref 5 [] 0 (List.length v2.1.Guests) 17]⟩),(4,some ⟨3,(fl (eI .i64) v2.1.Words)⟩),(5,some ⟨53,(fl O_53 v2.1.Guests)⟩)]) 6 (fun s6=>F_laws_FnHostCopy_j6 v1 v2 s6=some R_) ?_ ?_
 · intro s6 hh
   unfold F_laws_FnHostCopy_j6 at hh
   refine Aw.sreg [2] [] ?_
   let q10:Root:=⟨26,[sw 1 v1.1.Words,.sref 2 [] 0 (List.length v1.1.Guests) 17]⟩; let z36:=(0,some q10); let q11:Root:=⟨26,[sw 4 v2.1.Words,.sref 5 [] 0 (List.length v2.1.Guests) 17]⟩; let z37:=(3,some q11)
   refine yj 1  (sp 109 [z8,z13,z14,z10,(10,ii s6),z28]) [z36,z23,z21,z37,z34,z32] 6 ?_
   obtain ⟨v7,hv7,hh⟩:=bind_some hh
   refine ys (.call 23 [(.t 86)]) (some 87) (op_call (r:=bb v7) (v:=bb v7) (Hr:=[]) (n':=6) (impl_HostOk_fn hv7) (clz_v (vs:=[.agg [sw 4 v2.1.Words,.sref 5 [] 0 (List.length v2.1.Guests) 17]]) kr (clz_c (clo_agg (clos_c (clo_own (c:=(eI .i64)) (xs:=v2.1.Words) (e:=3) eqn len_eI no_eI cl_eI kr) (clos_c (clo_flr (B:=B_53) (xs:=v2.1.Guests) (e:=53) oc_O_53 len_O_53 eqn kr) clos_n))) clz_n)) rfl rfl kr ?_)
   refine yu 1 [(87,bb v7),(88,bb v7)] [z36,z23,z21,z37,z34,z32] 6 ?_
   rcases cond_some hh with ⟨hb,hh⟩ | ⟨hb,hh⟩
   · refine yb 87 hb (yb 88 hb (yu 2 [(87,bb true),(88,bb true),z17,z29] [z36,z23,z21,z37,z34,z32] 6 ?_))
     obtain ⟨v8,hv8,hh⟩:=bind_some hh
     refine yg (.call 25 [(.t 89),(.t 90),(.c (ii (-1)))]) (some 91) 88 true (op_call (r:=bb v8) (v:=bb v8) (Hr:=[]) (n':=6) (laws_sameViews_fn hv8) (clz_v (vs:=[.agg [sw 1 v1.1.Words,.sref 2 [] 0 (List.length v1.1.Guests) 17],.agg [sw 4 v2.1.Words,.sref 5 [] 0 (List.length v2.1.Guests) 17],ii (-1)]) kr (clz_c (clo_agg (clos_c (clo_own (c:=(eI .i64)) (xs:=v1.1.Words) (e:=3) eqn len_eI no_eI cl_eI kr) (clos_c (clo_flr (B:=B_53) (xs:=v1.1.Guests) (e:=53) oc_O_53 len_O_53 eqn kr) clos_n))) (clz_c (clo_agg (clos_c (clo_own (c:=(eI .i64)) (xs:=v2.1.Words) (e:=3) eqn len_eI no_eI cl_eI kr) (clos_c (clo_flr (B:=B_53) (xs:=v2.1.Guests) (e:=53) oc_O_53 len_O_53 eqn kr) clos_n))) (cz1 clz_n)))) rfl rfl kr ?_)
     refine yu 2 [(91,bb v8),(92,bb v8),(93,bb v8)] [z36,z23,z21,z37,z34,z32] 6 ?_
     rcases cond_sf hh with ⟨hb,hh⟩ | ⟨hb,hh⟩
     · exact yb 91 hb (yb 92 hb (yb 93 hb (yt (sp 109 [z7]) [] 6 (Aw.ret (gvbs hh)))))
     refine yb 91 hb (yb 92 hb (yb 93 hb ?_))
     obtain ⟨hg508,hh⟩:=grd_some hh
     refine yjc 5 [(0:Int)≤v1.2.1∧v1.2.1<(((List.length v2.1.Guests):Nat):Int)] (sp 109 [z8,z13,z14,z10,(10,ii s6),z28,(87,bb true),(88,bb true),z17,z29,(91,bb true),(92,bb true),(93,bb true),(94,.ptr 3 [] 1),z30,(96,ii v1.2.1),z18,z19]) [z36,z23,z21,z37,z34,z32] 6 (.cons hg508 .nil) (yg (.load false 1 (.t 98)) (some 99) 93 true (op_load (c:=O_53) (xs:=v2.1.Guests) (e:=53) (r:=5) (π:=[]) (o:=0+(Int.toNat v1.2.1)*17+14) (i:=(Int.toNat v1.2.1)) (off:=14) (v:=.sref 5 [0+(Int.toNat v1.2.1)*17+14+0] 0 (List.length (z1.Pages)) 3) len_O_53 kr kr ltn ltn dd kr ?_))
     obtain ⟨hg507,hh⟩:=grd_some hh
     refine yjc 3 [(0:Int)≤v1.2.2∧v1.2.2<(((List.length (z1.Pages)):Nat):Int)] (sp 109 [z8,z13,z14,z10,(10,ii s6),z28,(87,bb true),(88,bb true),z17,z29,(91,bb true),(92,bb true),(93,bb true),(94,.ptr 3 [] 1),z30,(96,ii v1.2.1),z18,z19,(99,.sref 5 [0+(Int.toNat v1.2.1)*17+14+0] 0 (List.length (z1.Pages)) 3),(100,ii v1.2.2),(101,.ptr 5 [0+(Int.toNat v1.2.1)*17+14+0] (0+(Int.toNat v1.2.2)*3)),(102,.ptr 5 [0+(Int.toNat v1.2.1)*17+14+0] (0+(Int.toNat v1.2.2)*3+1))]) [z36,z23,z21,z37,z34,z32] 6 (.cons hg507 .nil) (yg (.load false 1 (.t 102)) (some 103) 93 true (op_load (c:=C_50) (xs:=z1.Pages) (e:=50) (r:=5) (π:=[0+(Int.toNat v1.2.1)*17+14+0]) (o:=0+(Int.toNat v1.2.2)*3+1) (i:=(Int.toNat v1.2.2)) (off:=1) (v:=bb (z3.Write)) len_C_50 kr (get_fl (e:=53) (e':=50) (sz':=3) (m':=(List.length (z1.Pages))) (cs':=(fl C_50 (z1.Pages))) (c:=O_53) (xs:=v2.1.Guests) (i:=(Int.toNat v1.2.1)) (off:=14) len_O_53 kr ltn ltn dd rfl kr) ltn ltn dd kr ?_))
     refine yu 2 [(103,bb (z3.Write)),(104,bb (z3.Write)),(105,bb (z3.Write))] [z36,z23,z21,z37,z34,z32] 6 ?_
     rcases cond_sf hh with ⟨hb,hh⟩ | ⟨hb,hh⟩
     · exact yb 103 hb (yb 104 hb (yb 105 hb (yt (sp 109 [z7]) [] 6 (Aw.ret (gvbs hh)))))
     exact yb 103 hb (yb 104 hb (yb 105 hb (yt (sp 109 [(2,bb (decide (s6=(1:Int))))]) [] 6 (Aw.ret (gvbs hh)))))
   exact yb 87 hb (yb 88 hb (yt (sp 109 [z7]) [] 6 (Aw.ret (gvbs hh))))
 intro Q6 hN6 hR6 hE6
 refine sy [3,4,5,6,10,11] [0,1,2,3,4,5] (sp 109 [z9,z13,z14,z11,(10,ii 0),(11,ii 0)]) [z22,z20,z24,z33,z31,z35] 9 (Aw.block ?_)
 obtain ⟨o9,hi9,hk9⟩:=bind_some hh
 refine Aw.iter (fun (s9:Int × Int)=>sp 109 [(3,pp 0),(4,ii v1.2.1),(5,ii v1.2.2),(6,pp 3),(10,ii s9.1),(11,ii s9.2)]) (fun (s9:Int × Int)=>[(0,some ⟨26,[sw 1 v1.1.Words,.sref 2 [] 0 (List.length v1.1.Guests) 17]⟩),(1,some ⟨3,(fl (eI .i64) v1.1.Words)⟩),(2,some ⟨53,(fl O_53 v1.1.Guests)⟩),(3,some ⟨26,[sw 4 v2.1.Words,.sref 5 [] 0 (List.length v2.1.Guests) 17]⟩),(4,some ⟨3,(fl (eI .i64) v2.1.Words)⟩),(5,some ⟨53,(fl O_53 v2.1.Guests)⟩)]) 6 hi9 (el [some 2,some 0,some 1,some 5,some 3,some 4] (rens_sp kr (rp 2 (ri (ri (rp 5 (ri (ri rl_n))))))) (hq q3 rz (hn nr_eI (hn nr_O_53 (hq q6 rz (hn nr_eI (hn nr_O_53 hs_nil))))))) ?_
 intro s9 u9 Q9 hh hN9 hX9 hR9
 let z38:=(11,ii s9.2); let z39:=(65,ii s9.2); let z40:EV:=(66,.ptr 5 [] (0+(Int.toNat s9.2)*17)); let z41:EV:=(67,.ptr 5 [] (0+(Int.toNat s9.2)*17+14)); let z2:=List.getD v2.1.Guests (Int.toNat s9.2) default; let z42:EV:=(68,.sref 5 [0+(Int.toNat s9.2)*17+14+0] 0 (List.length (z2.Pages)) 3)
 unfold F_laws_FnHostCopy_l9 at hh
 refine Aw.seq (Aw.sreg [3,4,5,6,10,11,49] [0,1,2,3,4,5] ?_)
 let q12:Root:=⟨26,[sw 1 v1.1.Words,.sref 2 [] 0 (List.length v1.1.Guests) 17]⟩; let z43:=(0,some q12); let q13:Root:=⟨26,[sw 4 v2.1.Words,.sref 5 [] 0 (List.length v2.1.Guests) 17]⟩; let z44:=(3,some q13)
 refine yt (sp 109 [z8,z13,z14,z10,(10,ii s9.1),z38,(49,bb (decide (s9.2<(3:Int))))]) [z43,z23,z21,z44,z34,z32] 6 ?_
 rcases cond_sf hh with ⟨hb,hh⟩ | ⟨hb,hh⟩
 · refine cF hb (Aw.exit (then_x (hX9 _ _ _ _ _ (some_some hh) ?_)))
   intro hout
   rw [hout] at hk9
   refine blk_x ?_
   obtain rfl:=some_some hk9
   exact hN6 s9.1 _ _ _ hk6 (el [some 0,some 1,some 2,some 3,some 4,some 5] (rens_sp kr (rp 0 (ri (ri (rp 3 (ri rl_n)))))) (hq q12 rz (hn nr_eI (hn nr_O_53 (hq q13 rz (hn nr_eI (hn nr_O_53 hs_nil)))))))
 refine cT hb (Aw.xskip (fun _ _ _ hq=>then_m hq) ?_)
 obtain ⟨j10,hh,hk10⟩:=bind_some hh
 refine Aw.join (S:=Int) (fun s10=>sp 109 [(3,pp 0),(4,ii v1.2.1),(5,ii v1.2.2),(6,pp 3),(10,ii s10),(11,ii s9.2)]) (fun s10=>[(0,some ⟨26,[sw 1 v1.1.Words,.sref 2 [] 0 (List.length v1.1.Guests) 17]⟩),(1,some ⟨3,(fl (eI .i64) v1.1.Words)⟩),(2,some ⟨53,(fl O_53 v1.1.Guests)⟩),(3,some ⟨26,[sw 4 v2.1.Words,.sref 5 [] 0 (List.length v2.1.Guests) 17]⟩),(4,some ⟨3,(fl (eI .i64) v2.1.Words)⟩),(5,some ⟨53,(fl O_53 v2.1.Guests)⟩)]) 6 (fun s10=>F_laws_FnHostCopy_j10 s9 s10=some u9) ?_ ?_
 · intro s10 hh
   unfold F_laws_FnHostCopy_j10 at hh
   exact Aw.oreg (ye (sp 109 [z8,z13,z14,z10,(10,ii s10),(11,ii (w64 (s9.2+(1:Int)))),(50,ii s9.2),(51,ii (w64 (s9.2+(1:Int))))]) [z43,z23,z21,z44,z34,z32] 6 (hN9 (s10,(w64 (s9.2+(1:Int)))) _ _ _ (some_some hh) (el [some 0,some 1,some 2,some 3,some 4,some 5] (rens_sp kr (rp 0 (ri (ri (rp 3 (ri (ri rl_n))))))) (hq q12 rz (hn nr_eI (hn nr_O_53 (hq q13 rz (hn nr_eI (hn nr_O_53 hs_nil)))))))))
 intro Q10 hN10 hR10 hE10
 refine Aw.block (sy [3,4,5,6,10,11,12] [0,1,2,3,4,5] (sp 109 [z8,z13,z14,z10,(10,ii s9.1),z38,(12,ii 0)]) [z43,z23,z21,z44,z34,z32] 6 (Aw.block ?_))
 obtain ⟨o11,hi11,hk11⟩:=bind_some hh
 refine Aw.iter (fun (s11:Int × Int)=>sp 109 [(3,pp 0),(4,ii v1.2.1),(5,ii v1.2.2),(6,pp 3),(10,ii s11.1),(11,ii s9.2),(12,ii s11.2)]) (fun (s11:Int × Int)=>[(0,some ⟨26,[sw 1 v1.1.Words,.sref 2 [] 0 (List.length v1.1.Guests) 17]⟩),(1,some ⟨3,(fl (eI .i64) v1.1.Words)⟩),(2,some ⟨53,(fl O_53 v1.1.Guests)⟩),(3,some ⟨26,[sw 4 v2.1.Words,.sref 5 [] 0 (List.length v2.1.Guests) 17]⟩),(4,some ⟨3,(fl (eI .i64) v2.1.Words)⟩),(5,some ⟨53,(fl O_53 v2.1.Guests)⟩)]) 6 hi11 (el [some 0,some 1,some 2,some 3,some 4,some 5] (rens_sp kr (rp 0 (ri (ri (rp 3 (ri (ri (ri rl_n)))))))) (hq q12 rz (hn nr_eI (hn nr_O_53 (hq q13 rz (hn nr_eI (hn nr_O_53 hs_nil))))))) ?_
 intro s11 u11 Q11 hh hN11 hX11 hR11
 let z45:=(10,ii s11.1); let z46:=(12,ii s11.2); let z47:=(60,bb (decide (s11.2<(((List.length (z2.Pages)):Nat):Int)))); let z48:EV:=(70,.ptr 5 [0+(Int.toNat s9.2)*17+14+0] (0+(Int.toNat s11.2)*3)); let z49:EV:=(71,.ptr 5 [0+(Int.toNat s9.2)*17+14+0] (0+(Int.toNat s11.2)*3+0)); let z4:=List.getD (z2.Pages) (Int.toNat s11.2) default; let z50:=(83,bb (decide ((z4.Frame)=(z3.Frame))))
 unfold F_laws_FnHostCopy_l11 at hh
 refine Aw.seq (Aw.sreg [3,4,5,6,10,11,12,60] [0,1,2,3,4,5] ?_)
 obtain ⟨hg1012,hh⟩:=grd_some hh
 refine yjc 6 [(0:Int)≤s9.2∧s9.2<(((List.length v2.1.Guests):Nat):Int)] (sp 109 [z8,z13,z14,z10,z45,z38,z46,(52,ii s11.2),(53,.ptr 3 [] 1),(54,.sref 5 [] 0 (List.length v2.1.Guests) 17),(55,ii s9.2),(56,.ptr 5 [] (0+(Int.toNat s9.2)*17)),(57,.ptr 5 [] (0+(Int.toNat s9.2)*17+14))]) [z43,z23,z21,z44,z34,z32] 6 (.cons hg1012 .nil) (ys (.load false 1 (.t 57)) (some 58) (op_load (c:=O_53) (xs:=v2.1.Guests) (e:=53) (r:=5) (π:=[]) (o:=0+(Int.toNat s9.2)*17+14) (i:=(Int.toNat s9.2)) (off:=14) (v:=.sref 5 [0+(Int.toNat s9.2)*17+14+0] 0 (List.length (z2.Pages)) 3) len_O_53 kr kr ltn ltn dd kr ?_))
 refine yt (sp 109 [z8,z13,z14,z10,z45,z38,z46,z47]) [z43,z23,z21,z44,z34,z32] 6 ?_
 rcases cond_sf hh with ⟨hb,hh⟩ | ⟨hb,hh⟩
 · refine cF hb (Aw.exit (then_x (hX11 _ _ _ _ _ (some_some hh) ?_)))
   intro hout
   rw [hout] at hk11
   refine blk_x (blk_m ?_)
   obtain rfl:=some_some hk11
   exact hN10 s11.1 _ _ _ hk10 (el [some 0,some 1,some 2,some 3,some 4,some 5] (rens_sp kr (rp 0 (ri (ri (rp 3 (ri (ri rl_n))))))) (hq q12 rz (hn nr_eI (hn nr_O_53 (hq q13 rz (hn nr_eI (hn nr_O_53 hs_nil)))))))
 refine cT hb (Aw.xskip (fun _ _ _ hq=>then_m hq) ?_)
 obtain ⟨j12,hh,hk12⟩:=bind_some hh
 refine Aw.join (S:=Int) (fun s12=>sp 109 [(3,pp 0),(4,ii v1.2.1),(5,ii v1.2.2),(6,pp 3),(10,ii s12),(11,ii s9.2),(12,ii s11.2)]) (fun s12=>[(0,some ⟨26,[sw 1 v1.1.Words,.sref 2 [] 0 (List.length v1.1.Guests) 17]⟩),(1,some ⟨3,(fl (eI .i64) v1.1.Words)⟩),(2,some ⟨53,(fl O_53 v1.1.Guests)⟩),(3,some ⟨26,[sw 4 v2.1.Words,.sref 5 [] 0 (List.length v2.1.Guests) 17]⟩),(4,some ⟨3,(fl (eI .i64) v2.1.Words)⟩),(5,some ⟨53,(fl O_53 v2.1.Guests)⟩)]) 6 (fun s12=>F_laws_FnHostCopy_j12 s11 s12=some u11) ?_ ?_
 · intro s12 hh
   unfold F_laws_FnHostCopy_j12 at hh
   exact Aw.oreg (ye (sp 109 [z8,z13,z14,z10,(10,ii s12),z38,(12,ii (w64 (s11.2+(1:Int)))),(61,ii s11.2),(62,ii (w64 (s11.2+(1:Int))))]) [z43,z23,z21,z44,z34,z32] 6 (hN11 (s12,(w64 (s11.2+(1:Int)))) _ _ _ (some_some hh) (el [some 0,some 1,some 2,some 3,some 4,some 5] (rens_sp kr (rp 0 (ri (ri (rp 3 (ri (ri (ri rl_n)))))))) (hq q12 rz (hn nr_eI (hn nr_O_53 (hq q13 rz (hn nr_eI (hn nr_O_53 hs_nil)))))))))
 intro Q12 hN12 hR12 hE12
 refine Aw.block (Aw.sregq [3,4,5,6,10,11,12,83] ?_)
 obtain ⟨hg1011,hh⟩:=grd_some hh
 refine qc (cs:=[(0:Int)≤s9.2∧s9.2<(((List.length v2.1.Guests):Nat):Int)]) (E':=(sp 109 [z8,z13,z14,z10,z45,z38,z46,z47,z12,z25,z39,z40,z41])) (pre:=(List.take 5 Lf7_r15)) (L':=(List.drop 5 Lf7_r15)) kr (fun K=>by kernel_rfl) (.cons hg1011 .nil) (qs (.load false 1 (.t 67)) (some 68) (yq_q rfl (op_load (c:=O_53) (xs:=v2.1.Guests) (e:=53) (r:=5) (π:=[]) (o:=0+(Int.toNat s9.2)*17+14) (i:=(Int.toNat s9.2)) (off:=14) (v:=.sref 5 [0+(Int.toNat s9.2)*17+14+0] 0 (List.length (z2.Pages)) 3) len_O_53 kr kr ltn ltn dd kr ?_)))
 obtain ⟨hg1010,hh⟩:=grd_some hh
 refine qc (cs:=[(0:Int)≤s11.2∧s11.2<(((List.length (z2.Pages)):Nat):Int)]) (E':=(sp 109 [z8,z13,z14,z10,z45,z38,z46,z47,z12,z25,z39,z40,z41,z42,(69,ii s11.2),z48,z49])) (pre:=(List.take 3 (List.drop 6 Lf7_r15))) (L':=(List.drop 9 Lf7_r15)) kr (fun K=>by kernel_rfl) (.cons hg1010 .nil) (qs (.load false 1 (.t 71)) (some 72) (yq_q rfl (op_load (c:=C_50) (xs:=z2.Pages) (e:=50) (r:=5) (π:=[0+(Int.toNat s9.2)*17+14+0]) (o:=0+(Int.toNat s11.2)*3+0) (i:=(Int.toNat s11.2)) (off:=0) (v:=ii (z4.Frame)) len_C_50 kr (get_fl (e:=53) (e':=50) (sz':=3) (m':=(List.length (z2.Pages))) (cs':=(fl C_50 (z2.Pages))) (c:=O_53) (xs:=v2.1.Guests) (i:=(Int.toNat s9.2)) (off:=14) len_O_53 kr ltn ltn dd rfl kr) ltn ltn dd kr ?_)))
 obtain ⟨hg1009,hh⟩:=grd_some hh
 refine qc (cs:=[(0:Int)≤v1.2.1∧v1.2.1<(((List.length v2.1.Guests):Nat):Int)]) (E':=(sp 109 [z8,z13,z14,z10,z45,z38,z46,z47,z12,z25,z39,z40,z41,z42,(69,ii s11.2),z48,z49,(72,ii (z4.Frame)),(73,.ptr 3 [] 1),z27,(75,ii v1.2.1),z15,z16])) (pre:=(List.take 5 (List.drop 10 Lf7_r15))) (L':=(List.drop 15 Lf7_r15)) kr (fun K=>by kernel_rfl) (.cons hg1009 .nil) (qs (.load false 1 (.t 77)) (some 78) (yq_q rfl (op_load (c:=O_53) (xs:=v2.1.Guests) (e:=53) (r:=5) (π:=[]) (o:=0+(Int.toNat v1.2.1)*17+14) (i:=(Int.toNat v1.2.1)) (off:=14) (v:=.sref 5 [0+(Int.toNat v1.2.1)*17+14+0] 0 (List.length (z1.Pages)) 3) len_O_53 kr kr ltn ltn dd kr ?_)))
 obtain ⟨hg1008,hh⟩:=grd_some hh
 refine qc (cs:=[(0:Int)≤v1.2.2∧v1.2.2<(((List.length (z1.Pages)):Nat):Int)]) (E':=(sp 109 [z8,z13,z14,z10,z45,z38,z46,z47,z12,z25,z39,z40,z41,z42,(69,ii s11.2),z48,z49,(72,ii (z4.Frame)),(73,.ptr 3 [] 1),z27,(75,ii v1.2.1),z15,z16,(78,.sref 5 [0+(Int.toNat v1.2.1)*17+14+0] 0 (List.length (z1.Pages)) 3),(79,ii v1.2.2),(80,.ptr 5 [0+(Int.toNat v1.2.1)*17+14+0] (0+(Int.toNat v1.2.2)*3)),(81,.ptr 5 [0+(Int.toNat v1.2.1)*17+14+0] (0+(Int.toNat v1.2.2)*3+0))])) (pre:=(List.take 3 (List.drop 16 Lf7_r15))) (L':=(List.drop 19 Lf7_r15)) kr (fun K=>by kernel_rfl) (.cons hg1008 .nil) (qs (.load false 1 (.t 81)) (some 82) (yq_q rfl (op_load (c:=C_50) (xs:=z1.Pages) (e:=50) (r:=5) (π:=[0+(Int.toNat v1.2.1)*17+14+0]) (o:=0+(Int.toNat v1.2.2)*3+0) (i:=(Int.toNat v1.2.2)) (off:=0) (v:=ii (z3.Frame)) len_C_50 kr (get_fl (e:=53) (e':=50) (sz':=3) (m':=(List.length (z1.Pages))) (cs':=(fl C_50 (z1.Pages))) (c:=O_53) (xs:=v2.1.Guests) (i:=(Int.toNat v1.2.1)) (off:=14) len_O_53 kr ltn ltn dd rfl kr) ltn ltn dd kr ?_)))
 refine qct (cs:=[]) (E':=(sp 109 [z8,z13,z14,z10,z45,z38,z46,z50])) (fun K=>by kernel_rfl) .nil ?_
 rcases cond_sf hh with ⟨hb,hh⟩ | ⟨hb,hh⟩
 · refine cF hb (Aw.skip (blk_m ?_))
   obtain rfl:=some_some hh
   exact hN12 s11.1 _ _ _ hk12 (el [some 0,some 1,some 2,some 3,some 4,some 5] (rens_sp kr (rp 0 (ri (ri (rp 3 (ri (ri (ri rl_n)))))))) (hq q12 rz (hn nr_eI (hn nr_O_53 (hq q13 rz (hn nr_eI (hn nr_O_53 hs_nil)))))))
 refine cT hb (Aw.oreg (ye (sp 109 [z8,z13,z14,z10,(10,ii (w64 (s11.1+(1:Int)))),z38,z46,z50,(84,ii s11.1),(85,ii (w64 (s11.1+(1:Int))))]) [z43,z23,z21,z44,z34,z32] 6 (blk_m ?_)))
 obtain rfl:=some_some hh
 exact hN12 (w64 (s11.1+(1:Int))) _ _ _ hk12 (el [some 0,some 1,some 2,some 3,some 4,some 5] (rens_sp kr (rp 0 (ri (ri (rp 3 (ri (ri (ri rl_n)))))))) (hq q12 rz (hn nr_eI (hn nr_O_53 (hq q13 rz (hn nr_eI (hn nr_O_53 hs_nil)))))))
end Go.Proofs.Ytlikfpmbcdlnjaa
