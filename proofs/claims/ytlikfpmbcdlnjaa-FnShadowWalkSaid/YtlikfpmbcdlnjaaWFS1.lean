/- Plain functions of the program, and that it hands back what they say. Made by program. -/
import Derived.Test.YtlikfpmbcdlnjaaWT
import Derived.Test.YtlikfpmbcdlnjaaProg
import Derived.Test.YtlikfpmbcdlnjaaWD1
import Derived.Test.YtlikfpmbcdlnjaaWGS1
import Derived.Test.YtlikfpmbcdlnjaaWSO1
namespace Go.Proofs.Ytlikfpmbcdlnjaa
open Go.RowKit
set_option maxRecDepth 100000
set_option linter.all false
set_option maxHeartbeats 0
def Lf4_r0:List LOper:=[oF 2]
def Lf4_r1:List LOper:=[om 8 0,oH 9 8,ob 10 .gtr 9 1048576]
def Lf4_r2:List LOper:=[oT 2]
def Lf4_r3:List LOper:=[om 12 0,oK 13 26 [12],om 11 13,oE 14 11 0,oE 15 11 1,oo 3 (.fresh 26 [.nil,.nil]),oS 2 3 14,om 4 15]
def Lf4_r4:List LOper:=[oL 16 2 3,om 17 4,oK 18 27 [16,17],om 5 18]
def Lf4_r5:List LOper:=[oL 19 2 3,om 20 4,oK 21 28 [19,20],om 6 21]
def Lf4_r6:List LOper:=[om 22 5,oH 23 22,om 24 6,oH 25 24,oB 26 .neq 23 25]
def Lf4_r7:List LOper:=[oF 2]
def Lf4_r8:List LOper:=[oN 7 0]
def Lf4_r9:List LOper:=[om 27 7,om 28 5,oH 29 28,oB 30 .lss 27 29]
def Lf4_r10:List LOper:=[om 33 5,om 34 7,oi 35 6 33 34,oL 36 6 35,om 37 6,om 38 7,oi 39 6 37 38,oL 40 6 39,oo 41 (.beq true [(0,true),(1,true),(2,true),(3,false),(4,false),(5,true)] (.t 36) (.t 40)),om 42 41,og 43 (.mv (.t 5)) 42 false,og 44 (.mv (.t 7)) 42 false,og 45 (.iadr 6 (.t 43) (.t 44)) 42 false,og 46 (.fadr 4 (.t 45)) 42 false,og 47 (.load false 1 (.t 46)) 42 false,og 48 (.fadr 1 (.t 3)) 42 false,og 49 (.load false 1 (.t 48)) 42 false,og 50 (.mv (.t 4)) 42 false,og 51 (.iadr 17 (.t 49) (.t 50)) 42 false,og 52 (.fadr 14 (.t 51)) 42 false,og 53 (.load false 1 (.t 52)) 42 false,og 54 (.mv (.t 5)) 42 false,og 55 (.mv (.t 7)) 42 false,og 56 (.iadr 6 (.t 54) (.t 55)) 42 false,og 57 (.fadr 3 (.t 56)) 42 false,og 58 (.load false 1 (.t 57)) 42 false,og 59 (.iadr 3 (.t 53) (.t 58)) 42 false,og 60 (.fadr 0 (.t 59)) 42 false,og 61 (.load false 1 (.t 60)) 42 false,og 62 (.bin .neq (.t 47) (.t 61)) 42 false,oQ 63 42 62,om 64 63,og 65 (.fadr 1 (.t 3)) 64 false,og 66 (.load false 1 (.t 65)) 64 false,og 67 (.mv (.t 4)) 64 false,og 68 (.iadr 17 (.t 66) (.t 67)) 64 false,og 69 (.fadr 1 (.t 68)) 64 false,og 70 (.fadr 2 (.t 69)) 64 false,og 71 (.load false 1 (.t 70)) 64 false,og 72 (.bin .eql (.t 71) (.c (ii (-1)))) 64 false,og 73 (.mv (.t 72)) 64 false,og 74 (.mv (.t 5)) 73 true,og 75 (.mv (.t 7)) 73 true,og 76 (.iadr 6 (.t 74) (.t 75)) 73 true,og 77 (.fadr 3 (.t 76)) 73 true,og 78 (.load false 1 (.t 77)) 73 true,og 79 (.mv (.t 7)) 73 true,og 80 (.bin .neq (.t 78) (.t 79)) 73 true,og 81 (.pick (.t 73) (.t 80) (.c (bb false))) 64 false,oQ 82 64 81]
def Lf4_r11:List LOper:=[oF 2]
def Lf4_r12:List LOper:=[om 31 7,ob 32 .add 31 1,om 7 32]
def Lf4_l13:LCode:=(.seq (.seq (.reg false Lf4_r9) (.cond (.t 30) .skip (.exit 0))) (.seq (.block 1 (.seq (.reg true Lf4_r10) (.cond (.t 82) (.seq (.reg false Lf4_r11) .ret) .skip))) (.reg false Lf4_r12)))
def Lf4_r14:List LOper:=[om 83 5,oH 84 83,ob 85 .eql 84 8,om 86 85,og 87 (.mv (.t 5)) 86 false,og 88 (.len (.t 87)) 86 false,og 89 (.bin .eql (.t 88) (.c (ii 0))) 86 false,oQ 90 86 89,om 91 90,og 92 (.call 21 []) 91 true,oP 93 91 92,om 2 93]
def Lf4:LFun:=⟨94,[(.tmp 2)],(.seq (.reg false Lf4_r0) (.seq (.seq (.reg false Lf4_r1) (.cond (.t 10) (.seq (.reg false Lf4_r2) .ret) .skip)) (.seq (.reg false Lf4_r3) (.seq (.reg false Lf4_r4) (.seq (.reg false Lf4_r5) (.seq (.seq (.reg false Lf4_r6) (.cond (.t 26) (.seq (.reg false Lf4_r7) .ret) .skip)) (.seq (.seq (.reg false Lf4_r8) (.block 0 (.loop Lf4_l13))) (.seq (.reg false Lf4_r14) .ret))))))))⟩
theorem low_laws_FnShadowOf:lowFun Go.Proofs.Try.prog 4=some Lf4:=by kernel_rfl
noncomputable def F_laws_FnShadowOf_j4 (v2:(List DShade)) (s4:Unit):Option Bool :=
 cond (decide ((((List.length v2):Nat):Int)=(8:Int)))
  (Option.bind (F_laws_alive ) fun v5 =>
  some v5)
  (cond (decide ((((List.length v2):Nat):Int)=(0:Int)))
   (Option.bind (F_laws_alive ) fun v6 =>
   some v6)
   (some false))
noncomputable def F_laws_FnShadowOf_j8 (s7:Int) (s8:Unit):Option (LO Int (JO Unit Bool)) :=
 some (.next (w64 (s7+(1:Int))))
noncomputable def F_laws_FnShadowOf_l7 (v1:DHost × Int) (v2:(List DShade)) (v3:(List DShade)) (s7:Int):Option (LO Int (JO Unit Bool)) :=
 cond (decide (s7<(((List.length v2):Nat):Int)))
  (Option.bind (grd ((0:Int)≤s7∧s7<(((List.length v2):Nat):Int)) (grd ((0:Int)≤s7∧s7<(((List.length v3):Nat):Int)) (cond (!((((List.getD v2 (Int.toNat s7) default).There) == ((List.getD v3 (Int.toNat s7) default).There)) && ((((List.getD v2 (Int.toNat s7) default).Write) == ((List.getD v3 (Int.toNat s7) default).Write)) && ((((List.getD v2 (Int.toNat s7) default).User) == ((List.getD v3 (Int.toNat s7) default).User)) && (decide (((List.getD v2 (Int.toNat s7) default).Page)=((List.getD v3 (Int.toNat s7) default).Page)) && (decide (((List.getD v2 (Int.toNat s7) default).Frame)=((List.getD v3 (Int.toNat s7) default).Frame)) && ((((List.getD v2 (Int.toNat s7) default).Ready) == ((List.getD v3 (Int.toNat s7) default).Ready)) && true)))))))
   (some (.out (.ret (.out false))))
   (grd ((0:Int)≤s7∧s7<(((List.length v2):Nat):Int)) (grd ((0:Int)≤v1.2∧v1.2<(((List.length v1.1.Guests):Nat):Int)) (grd ((0:Int)≤s7∧s7<(((List.length v2):Nat):Int)) (grd ((0:Int)≤((List.getD v2 (Int.toNat s7) default).Page)∧((List.getD v2 (Int.toNat s7) default).Page)<(((List.length ((List.getD v1.1.Guests (Int.toNat v1.2) default).Pages)):Nat):Int)) (cond (!decide (((List.getD v2 (Int.toNat s7) default).Frame)=((List.getD ((List.getD v1.1.Guests (Int.toNat v1.2) default).Pages) (Int.toNat ((List.getD v2 (Int.toNat s7) default).Page)) default).Frame)))
    (some (.out (.ret (.out false))))
    (grd ((0:Int)≤v1.2∧v1.2<(((List.length v1.1.Guests):Nat):Int)) (cond (decide ((((List.getD v1.1.Guests (Int.toNat v1.2) default).C).Root)=(-1:Int)))
     (grd ((0:Int)≤s7∧s7<(((List.length v2):Nat):Int)) (cond (!decide (((List.getD v2 (Int.toNat s7) default).Page)=s7))
      (some (.out (.ret (.out false))))
      (some (.go ()))))
     (some (.go ())))))))))))) fun j8 =>
   JO.run j8 (F_laws_FnShadowOf_j8 s7))
  (some (.ret (.go ())))
noncomputable def F_laws_FnShadowOf (x_code:List Int):Option Bool :=
 cond (decide ((1048576:Int)<(((List.length x_code):Nat):Int)))
  (some true)
  (Option.bind (F_spec_DrawShadowOf x_code) fun v1 =>
  Option.bind (F_impl_ShadowOf v1.1 v1.2) fun v2 =>
  Option.bind (F_spec_ShadowOf v1.1 v1.2) fun v3 =>
  cond (!decide ((((List.length v2):Nat):Int)=(((List.length v3):Nat):Int)))
   (some false)
   (Option.bind (Option.bind (iter (F_laws_FnShadowOf_l7 v1 v2 v3) (0:Int)) LO.val) fun j4 =>
    JO.run j4 (F_laws_FnShadowOf_j4 v2)))
theorem laws_FnShadowOf_fn {x_code:List Int} {R_:Bool} (hh:F_laws_FnShadowOf x_code=some R_):Fn Try.prog 4 [bo (eI .u8) x_code] (.bool R_):=by
 let z13:=(0,bo (eI .u8) x_code); let z14:=(10,bb (decide ((1048576:Int)<(((List.length x_code):Nat):Int)))); let z15:=(2,bb false); let z16:=(3,pp 0); let z17:=(41,bb false); let z18:=(42,bb false); let z19:EV:=(48,.ptr 0 [] 1); let z1:=List.drop 10 Lf4_r10; let z2:=List.drop 15 Lf4_r10; let z3:=List.drop 21 Lf4_r10; let z4:=List.drop 26 Lf4_r10; let z5:=List.drop 29 Lf4_r10; let z6:=List.drop 32 Lf4_r10; let z7:=List.drop 39 Lf4_r10; let z8:=List.drop 41 Lf4_r10
 unfold F_laws_FnShadowOf at hh
 refine Fn.start low_laws_FnShadowOf [0] (E:=sp 94 [z13]) kr (v:=bb R_) (Hr:=[]) (k:=0) kr (sy [0] [] (sp 94 [z13]) [] 0 (Aw.seq (sy [0,10] [] (sp 94 [z13,z14]) [] 0 ?_)))
 rcases cond_some hh with ⟨hb,hh⟩ | ⟨hb,hh⟩
 · exact cT hb (sy [2] [] (sp 94 [(2,bb true)]) [] 0 (Aw.ret (then_r (gvbs hh))))
 refine cF hb (Aw.xskip (fun _ _ _ hq=>then_m hq) (Aw.sreg [3,4] [0,1,2] (yj 1  (sp 94 [z13,z14,(12,bo (eI .u8) x_code)]) [] 0 ?_)))
 obtain ⟨v1,hv1,hh⟩:=bind_some hh
 let z20:=(4,ii v1.2); let z21:EV:=(49,.sref 2 [] 0 (List.length v1.1.Guests) 17); let z22:=(50,ii v1.2); let z23:EV:=(51,.ptr 2 [] (0+(Int.toNat v1.2)*17)); let z24:EV:=(52,.ptr 2 [] (0+(Int.toNat v1.2)*17+14)); let z25:EV:=(66,.sref 2 [] 0 (List.length v1.1.Guests) 17); let z26:EV:=(68,.ptr 2 [] (0+(Int.toNat v1.2)*17)); let z27:EV:=(69,.ptr 2 [] (0+(Int.toNat v1.2)*17+1)); let z28:EV:=(70,.ptr 2 [] (0+(Int.toNat v1.2)*17+1+2)); let z9:=List.getD v1.1.Guests (Int.toNat v1.2) default; let z29:EV:=(53,.sref 2 [0+(Int.toNat v1.2)*17+14+0] 0 (List.length (z9.Pages)) 3); let q1:Root:=⟨53,(fl O_53 v1.1.Guests)⟩; let z30:=(1,some q1); let q2:Root:=⟨3,(fl (eI .i64) v1.1.Words)⟩; let z31:=(0,some q2)
 refine ys (.call 26 [(.t 12)]) (some 13) (op_call (r:=.tup [.agg [.own 3 1 (List.length v1.1.Words) (fl (eI .i64) v1.1.Words),.own 53 17 (List.length v1.1.Guests) (fl O_53 v1.1.Guests)],ii v1.2]) (v:=.tup [.agg [sw 0 v1.1.Words,.sref 1 [] 0 (List.length v1.1.Guests) 17],ii v1.2]) (Hr:=[z30,z31]) (n':=2) (spec_DrawShadowOf_fn hv1) (clz_v (vs:=[bo (eI .u8) x_code]) kr (clz_c (clo_same (clean_bor (cleans_fl cl_eI))) clz_n)) (by simp only [AV.noRef,noRefs,Bool.and_self,noRefs_fl nr_eI,noRefs_fl nr_O_53]) (by simp only [AV.noBor,noBors,Bool.and_self,noBors_fl nb_eI,noBors_fl nb_O_53]) kr ?_)
 let q3:Root:=⟨26,[sw 0 v1.1.Words,.sref 1 [] 0 (List.length v1.1.Guests) 17]⟩; let z32:=(2,some q3)
 refine yt (sp 94 [(3,pp 2),z20]) [z31,z30,z32] 3 (Aw.sreg [3,4,5] [0,1,2,3] (yu 2 [(16,.agg [sw 0 v1.1.Words,.sref 1 [] 0 (List.length v1.1.Guests) 17]),(17,ii v1.2)] [z31,z30,z32] 3 ?_))
 obtain ⟨v2,hv2,hh⟩:=bind_some hh
 let z33:EH:=(0,some ⟨48,(fl C_48 v2)⟩); let z34:EH:=(3,some ⟨48,(fl C_48 v2)⟩); let z35:EV:=(33,.sref 3 [] 0 (List.length v2) 6); let z36:EV:=(43,.sref 3 [] 0 (List.length v2) 6); let z37:EV:=(5,.sref 3 [] 0 (List.length v2) 6); let z38:EV:=(54,.sref 3 [] 0 (List.length v2) 6)
 refine ys (.call 27 [(.t 16),(.t 17)]) (some 18) (op_call (r:=.own 48 6 (List.length v2) (fl C_48 v2)) (v:=.sref 3 [] 0 (List.length v2) 6) (Hr:=[z34]) (n':=4) (impl_ShadowOf_fn hv2) (clz_v (vs:=[.agg [sw 0 v1.1.Words,.sref 1 [] 0 (List.length v1.1.Guests) 17],ii v1.2]) kr (clz_c (clo_agg (clos_c (clo_own (c:=(eI .i64)) (xs:=v1.1.Words) (e:=3) eqn len_eI no_eI cl_eI kr) (clos_c (clo_flr (B:=B_53) (xs:=v1.1.Guests) (e:=53) oc_O_53 len_O_53 eqn kr) clos_n))) (cz1 clz_n))) (by simp only [AV.noRef,noRefs,Bool.and_self,noRefs_fl nr_C_48]) (by simp only [AV.noBor,noBors,Bool.and_self,noBors_fl nb_C_48]) kr ?_)
 refine yt (sp 94 [(3,pp 2),z20,z37]) [z31,z30,z32,z34] 4 (Aw.sreg [3,4,5,6] [0,1,2,3,4] (yu 2 [(19,.agg [sw 0 v1.1.Words,.sref 1 [] 0 (List.length v1.1.Guests) 17]),(20,ii v1.2)] [z31,z30,z32,z34] 4 ?_))
 obtain ⟨v3,hv3,hh⟩:=bind_some hh
 let z39:EV:=(37,.sref 4 [] 0 (List.length v3) 6); let z40:EH:=(4,some ⟨48,(fl C_48 v3)⟩); let z41:EV:=(6,.sref 4 [] 0 (List.length v3) 6)
 refine ys (.call 28 [(.t 19),(.t 20)]) (some 21) (op_call (r:=.own 48 6 (List.length v3) (fl C_48 v3)) (v:=.sref 4 [] 0 (List.length v3) 6) (Hr:=[z40]) (n':=5) (spec_ShadowOf_fn hv3) (clz_v (vs:=[.agg [sw 0 v1.1.Words,.sref 1 [] 0 (List.length v1.1.Guests) 17],ii v1.2]) kr (clz_c (clo_agg (clos_c (clo_own (c:=(eI .i64)) (xs:=v1.1.Words) (e:=3) eqn len_eI no_eI cl_eI kr) (clos_c (clo_flr (B:=B_53) (xs:=v1.1.Guests) (e:=53) oc_O_53 len_O_53 eqn kr) clos_n))) (cz1 clz_n))) (by simp only [AV.noRef,noRefs,Bool.and_self,noRefs_fl nr_C_48]) (by simp only [AV.noBor,noBors,Bool.and_self,noBors_fl nb_C_48]) kr ?_)
 refine yt (sp 94 [(3,pp 2),z20,z37,z41]) [z31,z30,z32,z34,z40] 5 (Aw.seq (sy [3,4,5,6,26] [0,1,2,3,4] (sp 94 [(3,pp 2),z20,z37,z41,(26,bb (!decide ((((List.length v2):Nat):Int)=(((List.length v3):Nat):Int))))]) [z31,z30,z32,z34,z40] 5 ?_))
 rcases cond_some hh with ⟨hb,hh⟩ | ⟨hb,hh⟩
 · exact cT hb (sy [2] [] (sp 94 [z15]) [] 5 (Aw.ret (then_r (gvbs hh))))
 refine cF hb (Aw.xskip (fun _ _ _ hq=>then_m hq) ?_)
 obtain ⟨j4,hh,hk4⟩:=bind_some hh
 refine Aw.join (S:=Unit) (fun s4=>sp 94 [(5,.sref 0 [] 0 (List.length v2) 6)]) (fun s4=>[(0,some ⟨48,(fl C_48 v2)⟩)]) 1 (fun s4=>F_laws_FnShadowOf_j4 v2 s4=some R_) ?_ ?_
 · intro s4 hh
   unfold F_laws_FnShadowOf_j4 at hh
   refine Aw.sreg [2] [] (yj 4  (sp 94 [(5,.sref 0 [] 0 (List.length v2) 6),(83,.sref 0 [] 0 (List.length v2) 6),(84,ii (((List.length v2):Nat):Int)),(85,bb (decide ((((List.length v2):Nat):Int)=(8:Int)))),(86,bb (decide ((((List.length v2):Nat):Int)=(8:Int))))]) [z33] 1 ?_)
   rcases cond_some hh with ⟨hb,hh⟩ | ⟨hb,hh⟩
   · refine yb 85 hb (yb 86 hb (yu 5 [(85,bb true),(86,bb true),(87,.und),(88,.und),(89,.und),(90,bb true),(91,bb true)] [z33] 1 ?_))
     obtain ⟨v5,hv5,hh⟩:=bind_some hh
     refine yg (.call 21 []) (some 92) 91 true (oc (laws_alive_fn hv5) ?_)
     exact yt (sp 94 [(2,bb v5)]) [] 1 (Aw.ret (gvbs hh))
   refine yb 85 hb (yb 86 hb (yu 5 [(85,bb false),(86,bb false),(87,.sref 0 [] 0 (List.length v2) 6),(88,ii (((List.length v2):Nat):Int)),(89,bb (decide ((((List.length v2):Nat):Int)=(0:Int)))),(90,bb (decide ((((List.length v2):Nat):Int)=(0:Int)))),(91,bb (decide ((((List.length v2):Nat):Int)=(0:Int))))] [z33] 1 ?_))
   rcases cond_some hh with ⟨hb,hh⟩ | ⟨hb,hh⟩
   · refine yb 89 hb (yb 90 hb (yb 91 hb ?_))
     obtain ⟨v6,hv6,hh⟩:=bind_some hh
     refine yg (.call 21 []) (some 92) 91 true (oc (laws_alive_fn hv6) ?_)
     exact yt (sp 94 [(2,bb v6)]) [] 1 (Aw.ret (gvbs hh))
   exact yb 89 hb (yb 90 hb (yb 91 hb (yt (sp 94 [z15]) [] 1 (Aw.ret (gvbs hh)))))
 intro Q4 hN4 hR4 hE4
 refine sy [3,4,5,6,7] [0,1,2,3,4] (sp 94 [(3,pp 2),z20,z37,z41,(7,ii 0)]) [z31,z30,z32,z34,z40] 5 (Aw.block ?_)
 obtain ⟨o7,hi7,hk7⟩:=bind_some hh
 refine Aw.iter (fun (s7:Int)=>sp 94 [(3,pp 0),(4,ii v1.2),(5,.sref 3 [] 0 (List.length v2) 6),(6,.sref 4 [] 0 (List.length v3) 6),(7,ii s7)]) (fun (s7:Int)=>[(0,some ⟨26,[sw 1 v1.1.Words,.sref 2 [] 0 (List.length v1.1.Guests) 17]⟩),(1,some ⟨3,(fl (eI .i64) v1.1.Words)⟩),(2,some ⟨53,(fl O_53 v1.1.Guests)⟩),(3,some ⟨48,(fl C_48 v2)⟩),(4,some ⟨48,(fl C_48 v3)⟩)]) 5 hi7 (el [some 2,some 0,some 1,some 3,some 4] (rens_sp kr (rp 2 (ri (rs (.sref 3 [] 0 (List.length v2) 6) (rs (.sref 4 [] 0 (List.length v3) 6) (ri rl_n)))))) (hq q3 rz (hn nr_eI (hn nr_O_53 (hn nr_C_48 (hn nr_C_48 hs_nil)))))) ?_
 intro s7 u7 Q7 hh hN7 hX7 hR7
 let z42:=(30,bb (decide (s7<(((List.length v2):Nat):Int)))); let z43:=(34,ii s7); let z44:EV:=(35,.ptr 3 [] (0+(Int.toNat s7)*6)); let z45:=(38,ii s7); let z46:EV:=(39,.ptr 4 [] (0+(Int.toNat s7)*6)); let z47:=(44,ii s7); let z48:EV:=(45,.ptr 3 [] (0+(Int.toNat s7)*6)); let z49:EV:=(46,.ptr 3 [] (0+(Int.toNat s7)*6+4)); let z50:=(55,ii s7); let z51:EV:=(56,.ptr 3 [] (0+(Int.toNat s7)*6)); let z52:EV:=(57,.ptr 3 [] (0+(Int.toNat s7)*6+3)); let z53:=(7,ii s7); let z10:=List.getD v2 (Int.toNat s7) default; let z54:EV:=(36,.agg [bb (z10.There),bb (z10.Write),bb (z10.User),ii (z10.Page),ii (z10.Frame),bb (z10.Ready)]); let z55:=(47,ii (z10.Frame)); let z56:=(58,ii (z10.Page)); let z57:EV:=(59,.ptr 2 [0+(Int.toNat v1.2)*17+14+0] (0+(Int.toNat (z10.Page))*3)); let z58:EV:=(60,.ptr 2 [0+(Int.toNat v1.2)*17+14+0] (0+(Int.toNat (z10.Page))*3+0)); let z12:=List.getD (z9.Pages) (Int.toNat (z10.Page)) default; let z59:=(61,ii (z12.Frame)); let z11:=List.getD v3 (Int.toNat s7) default; let z60:EV:=(40,.agg [bb (z11.There),bb (z11.Write),bb (z11.User),ii (z11.Page),ii (z11.Frame),bb (z11.Ready)])
 unfold F_laws_FnShadowOf_l7 at hh
 refine Aw.seq (Aw.sreg [3,4,5,6,7,30] [0,1,2,3,4] ?_)
 let q4:Root:=⟨26,[sw 1 v1.1.Words,.sref 2 [] 0 (List.length v1.1.Guests) 17]⟩
 refine yt (sp 94 [z16,z20,z37,z41,z53,z42]) [(0,some q4),(1,some q2),(2,some q1),z34,z40] 5 ?_
 rcases cond_sf hh with ⟨hb,hh⟩ | ⟨hb,hh⟩
 · refine cF hb (Aw.exit (then_x (hX7 _ _ _ _ _ (some_some hh) ?_)))
   intro hout
   rw [hout] at hk7
   refine blk_x ?_
   obtain rfl:=some_some hk7
   exact hN4 () _ _ _ hk4 (el [some 3] (rens_sp kr (rs (.sref 3 [] 0 (List.length v2) 6) rl_n)) (hn nr_C_48 hs_nil))
 refine cT hb (Aw.xskip (fun _ _ _ hq=>then_m hq) ?_)
 obtain ⟨j8,hh,hk8⟩:=bind_some hh
 refine Aw.join (S:=Unit) (fun s8=>sp 94 [(3,pp 0),(4,ii v1.2),(5,.sref 3 [] 0 (List.length v2) 6),(6,.sref 4 [] 0 (List.length v3) 6),(7,ii s7)]) (fun s8=>[(0,some ⟨26,[sw 1 v1.1.Words,.sref 2 [] 0 (List.length v1.1.Guests) 17]⟩),(1,some ⟨3,(fl (eI .i64) v1.1.Words)⟩),(2,some ⟨53,(fl O_53 v1.1.Guests)⟩),(3,some ⟨48,(fl C_48 v2)⟩),(4,some ⟨48,(fl C_48 v3)⟩)]) 5 (fun s8=>F_laws_FnShadowOf_j8 s7 s8=some u7) ?_ ?_
 · intro s8 hh
   unfold F_laws_FnShadowOf_j8 at hh
   exact Aw.oreg (ye (sp 94 [z16,z20,z37,z41,(7,ii (w64 (s7+(1:Int)))),(31,ii s7),(32,ii (w64 (s7+(1:Int))))]) [(0,some q4),(1,some q2),(2,some q1),z34,z40] 5 (hN7 (w64 (s7+(1:Int))) _ _ _ (some_some hh) (el [some 0,some 1,some 2,some 3,some 4] (rens_sp kr (rp 0 (ri (rs (.sref 3 [] 0 (List.length v2) 6) (rs (.sref 4 [] 0 (List.length v3) 6) (ri rl_n)))))) (hq q4 rz (hn nr_eI (hn nr_O_53 (hn nr_C_48 (hn nr_C_48 hs_nil))))))))
 intro Q8 hN8 hR8 hE8
 refine Aw.block (Aw.sregq [3,4,5,6,7,82] ?_)
 obtain ⟨hg288,hh⟩:=grd_some hh
 refine qc (cs:=[(0:Int)≤s7∧s7<(((List.length v2):Nat):Int)]) (E':=(sp 94 [z16,z20,z37,z41,z53,z42,z35,z43,z44])) (pre:=(List.take 3 Lf4_r10)) (L':=(List.drop 3 Lf4_r10)) kr (fun K=>by kernel_rfl) (.cons hg288 .nil) (qs (.load true 6 (.t 35)) (some 36) (yq_q rfl (op_loadA (c:=C_48) (xs:=v2) (e:=48) (r:=3) (π:=[]) (o:=0+(Int.toNat s7)*6) (i:=(Int.toNat s7)) (off:=0) (v:=.agg [bb (z10.There),bb (z10.Write),bb (z10.User),ii (z10.Page),ii (z10.Frame),bb (z10.Ready)]) len_C_48 kr kr ltn ltn dd kr ?_)))
 obtain ⟨hg287,hh⟩:=grd_some hh
 refine qc (cs:=[(0:Int)≤s7∧s7<(((List.length v3):Nat):Int)]) (E':=(sp 94 [z16,z20,z37,z41,z53,z42,z35,z43,z44,z54,z39,z45,z46])) (pre:=(List.take 3 (List.drop 4 Lf4_r10))) (L':=(List.drop 7 Lf4_r10)) kr (fun K=>by kernel_rfl) (.cons hg287 .nil) (qs (.load true 6 (.t 39)) (some 40) (yq_q rfl (op_loadA (c:=C_48) (xs:=v3) (e:=48) (r:=4) (π:=[]) (o:=0+(Int.toNat s7)*6) (i:=(Int.toNat s7)) (off:=0) (v:=.agg [bb (z11.There),bb (z11.Write),bb (z11.User),ii (z11.Page),ii (z11.Frame),bb (z11.Ready)]) len_C_48 kr kr ltn ltn dd kr ?_)))
 refine qc (cs:=[]) (E':=(sp 94 [z16,z20,z37,z41,z53,z42,z35,z43,z44,z54,z39,z45,z46,z60,(41,bb (!(((z10.There) == (z11.There)) && (((z10.Write) == (z11.Write)) && (((z10.User) == (z11.User)) && (decide ((z10.Page)=(z11.Page)) && (decide ((z10.Frame)=(z11.Frame)) && (((z10.Ready) == (z11.Ready)) && true)))))))),(42,bb (!(((z10.There) == (z11.There)) && (((z10.Write) == (z11.Write)) && (((z10.User) == (z11.User)) && (decide ((z10.Page)=(z11.Page)) && (decide ((z10.Frame)=(z11.Frame)) && (((z10.Ready) == (z11.Ready)) && true))))))))])) (pre:=(List.take 2 (List.drop 8 Lf4_r10))) (L':=z1) kr (fun K=>by kernel_rfl) .nil ?_
 rcases cond_some hh with ⟨hb,hh⟩ | ⟨hb,hh⟩
 · refine qbs (t:=41) hb kr (qbs (t:=42) hb kr (qct (cs:=[]) (E':=(sp 94 [z16,z20,z37,z41,z53,(82,bb true)])) (fun K=>by kernel_rfl) .nil (cT rfl (sy [2] [] (sp 94 [z15]) [] 5 (Aw.ret (blk_r ?_))))))
   obtain rfl:=some_some hh
   refine hR8 _ _ _ ((hR7 _ _ _ _ (some_some hk8) ?_))
   intro hout
   rw [hout] at hk7
   refine blk_r ?_
   obtain rfl:=some_some hk7
   refine hR4 _ _ _ ?_
   rw [some_some hk4]
   exact gvb
 refine qbs (t:=41) hb kr (qbs (t:=42) hb kr ?_)
 obtain ⟨hg286,hh⟩:=grd_some hh
 refine qc (cs:=[(0:Int)≤s7∧s7<(((List.length v2):Nat):Int)]) (E':=(sp 94 [z16,z20,z37,z41,z53,z42,z35,z43,z44,z54,z39,z45,z46,z60,z17,z18,z36,z47,z48,z49])) (pre:=(List.take 4 z1)) (L':=(List.drop 14 Lf4_r10)) kr (fun K=>by kernel_rfl) (.cons hg286 .nil) (qsg (op:=(.load false 1 (.t 46))) (d:=(some 47)) (t:=42) (want:=false) (os:=z2) kr kr (yq_q rfl (op_load (c:=C_48) (xs:=v2) (e:=48) (r:=3) (π:=[]) (o:=0+(Int.toNat s7)*6+4) (i:=(Int.toNat s7)) (off:=4) (v:=ii (z10.Frame)) len_C_48 kr kr ltn ltn dd kr ?_)))
 obtain ⟨hg285,hh⟩:=grd_some hh
 refine qc (cs:=[(0:Int)≤v1.2∧v1.2<(((List.length v1.1.Guests):Nat):Int)]) (E':=(sp 94 [z16,z20,z37,z41,z53,z42,z35,z43,z44,z54,z39,z45,z46,z60,z17,z18,z36,z47,z48,z49,z55,z19,z21,z22,z23,z24])) (pre:=(List.take 5 z2)) (L':=(List.drop 20 Lf4_r10)) kr (fun K=>by kernel_rfl) (.cons hg285 .nil) (qsg (op:=(.load false 1 (.t 52))) (d:=(some 53)) (t:=42) (want:=false) (os:=z3) kr kr (yq_q rfl (op_load (c:=O_53) (xs:=v1.1.Guests) (e:=53) (r:=2) (π:=[]) (o:=0+(Int.toNat v1.2)*17+14) (i:=(Int.toNat v1.2)) (off:=14) (v:=.sref 2 [0+(Int.toNat v1.2)*17+14+0] 0 (List.length (z9.Pages)) 3) len_O_53 kr kr ltn ltn dd kr ?_)))
 obtain ⟨hg284,hh⟩:=grd_some hh
 refine qc (cs:=[(0:Int)≤s7∧s7<(((List.length v2):Nat):Int)]) (E':=(sp 94 [z16,z20,z37,z41,z53,z42,z35,z43,z44,z54,z39,z45,z46,z60,z17,z18,z36,z47,z48,z49,z55,z19,z21,z22,z23,z24,z29,z38,z50,z51,z52])) (pre:=(List.take 4 z3)) (L':=(List.drop 25 Lf4_r10)) kr (fun K=>by kernel_rfl) (.cons hg284 .nil) (qsg (op:=(.load false 1 (.t 57))) (d:=(some 58)) (t:=42) (want:=false) (os:=z4) kr kr (yq_q rfl (op_load (c:=C_48) (xs:=v2) (e:=48) (r:=3) (π:=[]) (o:=0+(Int.toNat s7)*6+3) (i:=(Int.toNat s7)) (off:=3) (v:=ii (z10.Page)) len_C_48 kr kr ltn ltn dd kr ?_)))
 obtain ⟨hg283,hh⟩:=grd_some hh
 refine qc (cs:=[(0:Int)≤(z10.Page)∧(z10.Page)<(((List.length (z9.Pages)):Nat):Int)]) (E':=(sp 94 [z16,z20,z37,z41,z53,z42,z35,z43,z44,z54,z39,z45,z46,z60,z17,z18,z36,z47,z48,z49,z55,z19,z21,z22,z23,z24,z29,z38,z50,z51,z52,z56,z57,z58])) (pre:=(List.take 2 z4)) (L':=(List.drop 28 Lf4_r10)) kr (fun K=>by kernel_rfl) (.cons hg283 .nil) (qsg (op:=(.load false 1 (.t 60))) (d:=(some 61)) (t:=42) (want:=false) (os:=z5) kr kr (yq_q rfl (op_load (c:=C_50) (xs:=z9.Pages) (e:=50) (r:=2) (π:=[0+(Int.toNat v1.2)*17+14+0]) (o:=0+(Int.toNat (z10.Page))*3+0) (i:=(Int.toNat (z10.Page))) (off:=0) (v:=ii (z12.Frame)) len_C_50 kr (get_fl (e:=53) (e':=50) (sz':=3) (m':=(List.length (z9.Pages))) (cs':=(fl C_50 (z9.Pages))) (c:=O_53) (xs:=v1.1.Guests) (i:=(Int.toNat v1.2)) (off:=14) len_O_53 kr ltn ltn dd rfl kr) ltn ltn dd kr ?_)))
 refine qc (cs:=[]) (E':=(sp 94 [z16,z20,z37,z41,z53,z42,z35,z43,z44,z54,z39,z45,z46,z60,z17,z18,z36,z47,z48,z49,z55,z19,z21,z22,z23,z24,z29,z38,z50,z51,z52,z56,z57,z58,z59,(62,bb (!decide ((z10.Frame)=(z12.Frame)))),(63,bb (!decide ((z10.Frame)=(z12.Frame)))),(64,bb (!decide ((z10.Frame)=(z12.Frame))))])) (pre:=(List.take 3 z5)) (L':=z6) kr (fun K=>by kernel_rfl) .nil ?_
 rcases cond_some hh with ⟨hb,hh⟩ | ⟨hb,hh⟩
 · refine qbs (t:=62) hb kr (qbs (t:=63) hb kr (qbs (t:=64) hb kr (qct (cs:=[]) (E':=(sp 94 [z16,z20,z37,z41,z53,(82,bb true)])) (fun K=>by kernel_rfl) .nil (cT rfl (sy [2] [] (sp 94 [z15]) [] 5 (Aw.ret (blk_r ?_)))))))
   obtain rfl:=some_some hh
   refine hR8 _ _ _ ((hR7 _ _ _ _ (some_some hk8) ?_))
   intro hout
   rw [hout] at hk7
   refine blk_r ?_
   obtain rfl:=some_some hk7
   refine hR4 _ _ _ ?_
   rw [some_some hk4]
   exact gvb
 refine qbs (t:=62) hb kr (qbs (t:=63) hb kr (qbs (t:=64) hb kr ?_))
 obtain ⟨hg282,hh⟩:=grd_some hh
 refine qc (cs:=[(0:Int)≤v1.2∧v1.2<(((List.length v1.1.Guests):Nat):Int)]) (E':=(sp 94 [z16,z20,z37,z41,z53,z42,z35,z43,z44,z54,z39,z45,z46,z60,z17,z18,z36,z47,z48,z49,z55,z19,z21,z22,z23,z24,z29,z38,z50,z51,z52,z56,z57,z58,z59,(62,bb false),(63,bb false),(64,bb false),(65,.ptr 0 [] 1),z25,(67,ii v1.2),z26,z27,z28])) (pre:=(List.take 6 z6)) (L':=(List.drop 38 Lf4_r10)) kr (fun K=>by kernel_rfl) (.cons hg282 .nil) (qsg (op:=(.load false 1 (.t 70))) (d:=(some 71)) (t:=64) (want:=false) (os:=z7) kr kr (yq_q rfl (op_load (c:=O_53) (xs:=v1.1.Guests) (e:=53) (r:=2) (π:=[]) (o:=0+(Int.toNat v1.2)*17+1+2) (i:=(Int.toNat v1.2)) (off:=3) (v:=ii ((z9.C).Root)) len_O_53 kr kr ltn ltn dd kr ?_)))
 refine qc (cs:=[]) (E':=(sp 94 [z16,z20,z37,z41,z53,z42,z35,z43,z44,z54,z39,z45,z46,z60,z17,z18,z36,z47,z48,z49,z55,z19,z21,z22,z23,z24,z29,z38,z50,z51,z52,z56,z57,z58,z59,(62,bb false),(63,bb false),(64,bb false),(65,.ptr 0 [] 1),z25,(67,ii v1.2),z26,z27,z28,(71,ii ((z9.C).Root)),(72,bb (decide (((z9.C).Root)=(-1:Int)))),(73,bb (decide (((z9.C).Root)=(-1:Int))))])) (pre:=(List.take 2 z7)) (L':=z8) kr (fun K=>by kernel_rfl) .nil ?_
 rcases cond_sf hh with ⟨hb,hh⟩ | ⟨hb,hh⟩
 · refine qbs (t:=72) hb kr (qbs (t:=73) hb kr (qct (cs:=[]) (E':=(sp 94 [z16,z20,z37,z41,z53,(82,bb false)])) (fun K=>by kernel_rfl) .nil (cF rfl (Aw.skip (blk_m ?_)))))
   obtain rfl:=some_some hh
   exact hN8 () _ _ _ hk8 (el [some 0,some 1,some 2,some 3,some 4] (rens_sp kr (rp 0 (ri (rs (.sref 3 [] 0 (List.length v2) 6) (rs (.sref 4 [] 0 (List.length v3) 6) (ri rl_n)))))) (hq q4 rz (hn nr_eI (hn nr_O_53 (hn nr_C_48 (hn nr_C_48 hs_nil))))))
 refine qbs (t:=72) hb kr (qbs (t:=73) hb kr ?_)
 obtain ⟨hg281,hh⟩:=grd_some hh
 refine qc (cs:=[(0:Int)≤s7∧s7<(((List.length v2):Nat):Int)]) (E':=(sp 94 [z16,z20,z37,z41,z53,z42,z35,z43,z44,z54,z39,z45,z46,z60,z17,z18,z36,z47,z48,z49,z55,z19,z21,z22,z23,z24,z29,z38,z50,z51,z52,z56,z57,z58,z59,(62,bb false),(63,bb false),(64,bb false),(65,.ptr 0 [] 1),z25,(67,ii v1.2),z26,z27,z28,(71,ii ((z9.C).Root)),(72,bb true),(73,bb true),(74,.sref 3 [] 0 (List.length v2) 6),(75,ii s7),(76,.ptr 3 [] (0+(Int.toNat s7)*6)),(77,.ptr 3 [] (0+(Int.toNat s7)*6+3))])) (pre:=(List.take 4 z8)) (L':=(List.drop 45 Lf4_r10)) kr (fun K=>by kernel_rfl) (.cons hg281 .nil) (qsg (op:=(.load false 1 (.t 77))) (d:=(some 78)) (t:=73) (want:=true) (os:=(List.drop 46 Lf4_r10)) kr kr (yq_q rfl (op_load (c:=C_48) (xs:=v2) (e:=48) (r:=3) (π:=[]) (o:=0+(Int.toNat s7)*6+3) (i:=(Int.toNat s7)) (off:=3) (v:=ii (z10.Page)) len_C_48 kr kr ltn ltn dd kr ?_)))
 refine qct (cs:=[]) (E':=(sp 94 [z16,z20,z37,z41,z53,(82,bb (!decide ((z10.Page)=s7)))])) (fun K=>by kernel_rfl) .nil ?_
 rcases cond_sf hh with ⟨hb,hh⟩ | ⟨hb,hh⟩
 · refine cF hb (Aw.skip (blk_m ?_))
   obtain rfl:=some_some hh
   exact hN8 () _ _ _ hk8 (el [some 0,some 1,some 2,some 3,some 4] (rens_sp kr (rp 0 (ri (rs (.sref 3 [] 0 (List.length v2) 6) (rs (.sref 4 [] 0 (List.length v3) 6) (ri rl_n)))))) (hq q4 rz (hn nr_eI (hn nr_O_53 (hn nr_C_48 (hn nr_C_48 hs_nil))))))
 refine cT hb (sy [2] [] (sp 94 [z15]) [] 5 (Aw.ret (blk_r ?_)))
 obtain rfl:=some_some hh
 refine hR8 _ _ _ ((hR7 _ _ _ _ (some_some hk8) ?_))
 intro hout
 rw [hout] at hk7
 refine blk_r ?_
 obtain rfl:=some_some hk7
 refine hR4 _ _ _ ?_
 rw [some_some hk4]
 exact gvb
end Go.Proofs.Ytlikfpmbcdlnjaa
