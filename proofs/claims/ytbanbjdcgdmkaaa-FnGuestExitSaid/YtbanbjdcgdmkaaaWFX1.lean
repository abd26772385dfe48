/- Plain functions of the program, and that it hands back what they say. Made by program. -/
import Derived.Test.YtbanbjdcgdmkaaaWT
import Derived.Test.YtbanbjdcgdmkaaaProg
import Derived.Test.YtbanbjdcgdmkaaaWD1
import Derived.Test.YtbanbjdcgdmkaaaWGA1
import Derived.Test.YtbanbjdcgdmkaaaWGX1
import Derived.Test.YtbanbjdcgdmkaaaWKI1
import Derived.Test.YtbanbjdcgdmkaaaWSL1
import Derived.Test.YtbanbjdcgdmkaaaWSP1
namespace Go.Proofs.Ytbanbjdcgdmkaaa
open Go.RowKit
set_option maxRecDepth 100000
set_option linter.all false
set_option maxHeartbeats 0
theorem low_laws_FnGuestExit:LW 5 ⟨127,[(.tmp 2)],(.seq (.reg false (rg 5 0)) (.seq (.seq (.reg false (rg 5 1)) (.cond (.t 13) (.seq (.reg false (rg 5 2)) .ret) .skip)) (.seq (.reg false (rg 5 3)) (.seq (.reg false (rg 5 4)) (.seq (.seq (.regd (rg 5 5) (rg 5 6)) (.cond (.t 26) (.seq (.reg false (rg 5 7)) .ret) .skip)) (.seq (.seq (.reg false (rg 5 8)) (.cond (.t 29) (.seq (.reg false (rg 5 9)) (.seq (.regd (rg 5 10) (rg 5 11)) .ret)) .skip)) (.seq (.seq (.reg false (rg 5 12)) (.cond (.t 63) (.seq (.regd (rg 5 13) (rg 5 14)) (.seq (.reg false (rg 5 15)) (.seq (.regd (rg 5 16) (rg 5 17)) .ret))) .skip)) (.seq (.reg false (rg 5 18)) .ret))))))))⟩:=kr
noncomputable def F_laws_FnGuestExit (x_code:List Int):Option Bool :=
 cond (decide ((1048576:Int)<(((List.length x_code):Nat):Int)))
  (some true)
  (Option.bind (F_spec_DrawGuestExit x_code) fun v1 =>
  Option.bind (F_impl_GuestExit v1.1 v1.2) fun v2 =>
  Option.bind (F_spec_GuestExit v1.1 v1.2) fun v3 =>
  cond (!(decide (v2.Why=v3.Why) && (decide (v2.Page=v3.Page) && (decide (v2.What.Op=v3.What.Op) && (decide (v2.What.A=v3.What.A) && (decide (v2.What.N=v3.What.N) && true))))))
   (some false)
   (cond (decide (v2.Why=(2:Int)))
    (Option.bind (F_impl_HostFill v1.1 v1.2 v2.Page) fun v4 =>
    grd ((0:Int)≤v1.2∧v1.2<(((List.length v1.1.Guests):Nat):Int)) (grd ((0:Int)≤v2.Page∧v2.Page<(((List.length ((List.getD v1.1.Guests (Int.toNat v1.2) default).Pages)):Nat):Int)) (cond (decide (((List.getD ((List.getD v1.1.Guests (Int.toNat v1.2) default).Pages) (Int.toNat v2.Page) default).Frame)=(-1:Int)))
     (cond (!v4.2)
      (some true)
      (Option.bind (F_impl_GuestExit v4.1 v1.2) fun v5 =>
      some (!(decide (v5.Why=v2.Why) && (decide (v5.Page=v2.Page) && (decide (v5.What.Op=v2.What.Op) && (decide (v5.What.A=v2.What.A) && (decide (v5.What.N=v2.What.N) && true))))))))
     (some false))))
    (cond (decide (v2.Why=(3:Int)))
     (grd ((0:Int)≤v1.2∧v1.2<(((List.length v1.1.Guests):Nat):Int)) (grd ((0:Int)≤v2.Page∧v2.Page<(((List.length ((List.getD v1.1.Guests (Int.toNat v1.2) default).Pages)):Nat):Int)) (Option.bind (F_impl_HostCopy v1.1 v1.2 v2.Page) fun v6 =>
      cond (decide ((0:Int)≤((List.getD ((List.getD v1.1.Guests (Int.toNat v1.2) default).Pages) (Int.toNat v2.Page) default).Frame)))
       (cond (!((List.getD ((List.getD v1.1.Guests (Int.toNat v1.2) default).Pages) (Int.toNat v2.Page) default).Write))
        (cond (!v6.2)
         (some true)
         (Option.bind (F_impl_GuestExit v6.1 v1.2) fun v7 =>
         some (!(decide (v7.Why=v2.Why) && (decide (v7.Page=v2.Page) && (decide (v7.What.Op=v2.What.Op) && (decide (v7.What.A=v2.What.A) && (decide (v7.What.N=v2.What.N) && true))))))))
        (some false))
       (some false))))
     (cond (decide (v2.Why=(0:Int)))
      (Option.bind (F_laws_alive ) fun v8 =>
      some v8)
      (cond (decide (v2.Why=(1:Int)))
       (Option.bind (F_impl_InsKernel v2.What) fun v9 =>
       cond v9
        (grd ((0:Int)≤v1.2∧v1.2<(((List.length v1.1.Guests):Nat):Int)) (cond (!(((List.getD v1.1.Guests (Int.toNat v1.2) default).C).User))
         (Option.bind (F_laws_alive ) fun v10 =>
         some v10)
         (some false)))
        (some false))
       (some false))))))
theorem laws_FnGuestExit_fn {x_code:List Int} {R_:Bool} (hh:F_laws_FnGuestExit x_code=some R_):Fn Try.prog 5 [bo (eI .u8) x_code] (.bool R_):=by
 let z3:=(0,bo (eI .u8) x_code); let z4:=(13,bb (decide ((1048576:Int)<(((List.length x_code):Nat):Int)))); let z5:=(2,bb false); let z6:=(3,pp 2); let z7:EV:=(38,.ptr 2 [] 1); let z8:EV:=(44,.ptr 3 [] 1); let z9:=(49,bb true); let z10:=(5,pp 3); let z11:=(50,bb true); let z12:=(6,pp 6); let z13:=(8,pp 4); let z14:=(82,pp 4); let z15:=(84,bb true); let z16:=(85,bb true); let z17:EV:=(86,.ptr 4 [] 1); let z18:=(88,bb true); let z19:=(89,bb true); let z20:=(9,pp 7); let z21:=(90,bb true)
 unfold F_laws_FnGuestExit at hh
 refine Fn.start low_laws_FnGuestExit [0] (E:=sp 127 [z3]) kr (v:=bb R_) (Hr:=[]) (k:=0) kr (sy [0] [] (sp 127 [z3]) [] 0 (Aw.seq (sy [0,13] [] (sp 127 [z3,z4]) [] 0 ?_)))
 rcases cond_some hh with ⟨hb,hh⟩ | ⟨hb,hh⟩
 · exact cT hb (sy [2] [] (sp 127 [(2,bb true)]) [] 0 (Aw.ret (then_r (gvbs hh))))
 refine cF hb (Aw.xskip (fun _ _ _ hq=>then_m hq) (Aw.sreg [3,4] [0,1,2] (yj 1  (sp 127 [z3,z4,(15,bo (eI .u8) x_code)]) [] 0 ?_)))
 obtain ⟨v1,hv1,hh⟩:=bind_some hh
 let z22:EV:=(23,.agg [sw 0 v1.1.Words,.sref 1 [] 0 (List.length v1.1.Guests) 17]); let z23:EV:=(39,.sref 1 [] 0 (List.length v1.1.Guests) 17); let z24:=(4,ii v1.2); let z25:=(40,ii v1.2); let z26:EV:=(41,.ptr 1 [] (0+(Int.toNat v1.2)*17)); let z27:EV:=(42,.ptr 1 [] (0+(Int.toNat v1.2)*17+14)); let z28:EV:=(65,.sref 1 [] 0 (List.length v1.1.Guests) 17); let z29:EV:=(67,.ptr 1 [] (0+(Int.toNat v1.2)*17)); let z30:EV:=(68,.ptr 1 [] (0+(Int.toNat v1.2)*17+14)); let z1:=List.getD v1.1.Guests (Int.toNat v1.2) default; let z31:EV:=(43,.sref 1 [0+(Int.toNat v1.2)*17+14+0] 0 (List.length (z1.Pages)) 3); let z32:EV:=(69,.sref 1 [0+(Int.toNat v1.2)*17+14+0] 0 (List.length (z1.Pages)) 3); let q1:Root:=(rO55 v1.1.Guests); let z33:=(1,some q1); let q2:Root:=(rI_3 v1.1.Words); let z34:=(0,some q2)
 refine ys (.call 22 [(.t 15)]) (some 16) (op_call (r:=.tup [.agg [.own 3 1 (List.length v1.1.Words) (fl (eI .i64) v1.1.Words),.own 55 17 (List.length v1.1.Guests) (fl O_55 v1.1.Guests)],ii v1.2]) (v:=.tup [.agg [sw 0 v1.1.Words,.sref 1 [] 0 (List.length v1.1.Guests) 17],ii v1.2]) (Hr:=[z33,z34]) (n':=2) (spec_DrawGuestExit_fn hv1) (clz_v (vs:=[bo (eI .u8) x_code]) kr (clz_c (clo_same (clean_bor (cleans_fl cl_eI))) clz_n)) nrr nrr kr ?_)
 let q3:Root:=⟨41,[sw 0 v1.1.Words,.sref 1 [] 0 (List.length v1.1.Guests) 17]⟩; let z35:=(2,some q3)
 refine yt (sp 127 [z6,z24]) [z34,z33,z35] 3 (Aw.sreg [3,4,5] [0,1,2,3] (yu 2 [(19,.agg [sw 0 v1.1.Words,.sref 1 [] 0 (List.length v1.1.Guests) 17]),(20,ii v1.2)] [z34,z33,z35] 3 ?_))
 obtain ⟨v2,hv2,hh⟩:=bind_some hh
 let z36:EH:=(3,some ⟨47,(C_47 v2)⟩); let z37:=(45,ii v2.Page); let z38:EV:=(46,.ptr 1 [0+(Int.toNat v1.2)*17+14+0] (0+(Int.toNat v2.Page)*3)); let z39:EV:=(47,.ptr 1 [0+(Int.toNat v1.2)*17+14+0] (0+(Int.toNat v2.Page)*3+0)); let z40:=(63,bb (decide (v2.Why=(3:Int)))); let z41:EV:=(72,.ptr 1 [0+(Int.toNat v1.2)*17+14+0] (0+(Int.toNat v2.Page)*3)); let z2:=List.getD (z1.Pages) (Int.toNat v2.Page) default; let z42:=(48,ii (z2.Frame)); let z43:=(83,ii (z2.Frame)); let z44:=(87,bb (z2.Write))
 refine ys (.call 23 [(.t 19),(.t 20)]) (some 21) (op_call (r:=.agg (C_47 v2)) (v:=.agg (C_47 v2)) (Hr:=[]) (n':=3) (impl_GuestExit_fn hv2) (clz_v (vs:=[.agg [sw 0 v1.1.Words,.sref 1 [] 0 (List.length v1.1.Guests) 17],ii v1.2]) kr (clz_c (clo_agg (clos_c (clo_own (c:=(eI .i64)) (xs:=v1.1.Words) (e:=3) eqn len_eI no_eI cl_eI kr) (clos_c (clo_flr (B:=B_55) (xs:=v1.1.Guests) (e:=55) oc_O_55 len_O_55 eqn kr) clos_n))) (cz1 clz_n))) rfl rfl kr ?_)
 refine yt (sp 127 [z6,z24,z10]) [z34,z33,z35,z36] 4 (Aw.seq (Aw.sregd [3,4,5,26] [0,1,2,3] [] kr (dj 3 (sp 127 [z6,z24,z10,(22,.agg (C_47 v2)),z22,(24,ii v1.2)]) [z34,z33,z35,z36] 4 ?_)))
 obtain ⟨v3,hv3,hh⟩:=bind_some hh
 refine ds (.call 24 [(.t 23),(.t 24)]) (some 25) (ydo_n rfl (op_call (r:=.agg (C_47 v3)) (v:=.agg (C_47 v3)) (Hr:=[]) (n':=4) (spec_GuestExit_fn hv3) (clz_v (vs:=[.agg [sw 0 v1.1.Words,.sref 1 [] 0 (List.length v1.1.Guests) 17],ii v1.2]) kr (clz_c (clo_agg (clos_c (clo_own (c:=(eI .i64)) (xs:=v1.1.Words) (e:=3) eqn len_eI no_eI cl_eI kr) (clos_c (clo_flr (B:=B_55) (xs:=v1.1.Guests) (e:=55) oc_O_55 len_O_55 eqn kr) clos_n))) (cz1 clz_n))) rfl rfl kr ⟨⟨agr_name (n:=4) (n0:=4) (r:=.agg (C_47 v3)) (v:=.agg (C_47 v3)) (Hr:=[]) (n':=4) kr dd,Hld.un ?_⟩⟩))
 refine dt (sp 127 [z6,z24,z10,(22,.agg (C_47 v2)),z22,(24,ii v1.2),(25,.agg (C_47 v3))]) [z34,z33,z35,z36] 4 (yt (sp 127 [z6,z24,z10,(26,bb (!(decide (v2.Why=v3.Why) && (decide (v2.Page=v3.Page) && (decide (v2.What.Op=v3.What.Op) && (decide (v2.What.A=v3.What.A) && (decide (v2.What.N=v3.What.N) && true)))))))]) [z34,z33,z35,z36] 4 ?_)
 rcases cond_some hh with ⟨hb,hh⟩ | ⟨hb,hh⟩
 · exact cT hb (sy [2] [] (sp 127 [z5]) [] 4 (Aw.ret (then_r (gvbs hh))))
 refine cF hb (Aw.xskip (fun _ _ _ hq=>then_m hq) (Aw.seq (sy [3,4,5,29] [0,1,2,3] (sp 127 [z6,z24,z10,(29,bb (decide (v2.Why=(2:Int))))]) [z34,z33,z35,z36] 4 ?_)))
 rcases cond_some hh with ⟨hb,hh⟩ | ⟨hb,hh⟩
 · refine cT hb (Aw.sreg [3,4,5,6,7] [0,1,2,3,4,5,6] (yu 4 [(31,.agg [sw 0 v1.1.Words,.sref 1 [] 0 (List.length v1.1.Guests) 17]),(32,ii v1.2),(33,.ptr 3 [] 1),(34,ii v2.Page)] [z34,z33,z35,z36] 4 ?_))
   obtain ⟨v4,hv4,hh⟩:=bind_some hh
   let z45:=(51,bb v4.2); let z46:EV:=(54,.agg [sw 4 v4.1.Words,.sref 5 [] 0 (List.length v4.1.Guests) 17]); let z47:=(7,bb v4.2); let q4:Root:=(rO55 v4.1.Guests); let z48:=(5,some q4); let q5:Root:=(rI_3 v4.1.Words); let z49:=(4,some q5)
   refine ys (.call 25 [(.t 31),(.t 32),(.t 34)]) (some 35) (op_call (r:=.tup [.agg [.own 3 1 (List.length v4.1.Words) (fl (eI .i64) v4.1.Words),.own 55 17 (List.length v4.1.Guests) (fl O_55 v4.1.Guests)],bb v4.2]) (v:=.tup [.agg [sw 4 v4.1.Words,.sref 5 [] 0 (List.length v4.1.Guests) 17],bb v4.2]) (Hr:=[z48,z49]) (n':=6) (impl_HostFill_fn hv4) (clz_v (vs:=[.agg [sw 0 v1.1.Words,.sref 1 [] 0 (List.length v1.1.Guests) 17],ii v1.2,ii v2.Page]) kr (clz_c (clo_agg (clos_c (clo_own (c:=(eI .i64)) (xs:=v1.1.Words) (e:=3) eqn len_eI no_eI cl_eI kr) (clos_c (clo_flr (B:=B_55) (xs:=v1.1.Guests) (e:=55) oc_O_55 len_O_55 eqn kr) clos_n))) (cz1 (cz1 clz_n)))) nrr nrr kr ?_)
   let q6:Root:=⟨41,[sw 4 v4.1.Words,.sref 5 [] 0 (List.length v4.1.Guests) 17]⟩; let z50:=(6,some q6)
   refine yt (sp 127 [z6,z24,z10,z12,z47]) [z34,z33,z35,z36,z49,z48,z50] 7 (Aw.sregd [2] [] [] kr ?_)
   obtain ⟨hg8,hh⟩:=grd_some hh
   refine dc (cs:=[(0:Int)≤v1.2∧v1.2<(((List.length v1.1.Guests):Nat):Int)]) (E':=(sp 127 [z6,z24,z10,z12,z47,z7,z23,z25,z26,z27])) (H':=[z34,z33,z35,z36,z49,z48,z50]) (n':=7) (fs':=none) (pre:=(List.take 5 (rg 5 10))) (L':=(List.drop 5 (rg 5 10))) kr (fun K=>by kernel_rfl) (.cons hg8 .nil) (ds (.load false 1 (.t 42)) (some 43) (ydo_q rfl kr (op_load (c:=O_55) (xs:=v1.1.Guests) (e:=55) (r:=1) (π:=[]) (o:=0+(Int.toNat v1.2)*17+14) (i:=(Int.toNat v1.2)) (off:=14) (v:=.sref 1 [0+(Int.toNat v1.2)*17+14+0] 0 (List.length (z1.Pages)) 3) len_O_55 kr kr ltn ltn dd kr ?_)))
   obtain ⟨hg7,hh⟩:=grd_some hh
   refine dc (cs:=[(0:Int)≤v2.Page∧v2.Page<(((List.length (z1.Pages)):Nat):Int)]) (E':=(sp 127 [z6,z24,z10,z12,z47,z7,z23,z25,z26,z27,z31,z8,z37,z38,z39])) (H':=[z34,z33,z35,z36,z49,z48,z50]) (n':=7) (fs':=none) (pre:=(List.take 4 (List.drop 6 (rg 5 10)))) (L':=(List.drop 10 (rg 5 10))) kr (fun K=>by kernel_rfl) (.cons hg7 .nil) (ds (.load false 1 (.t 47)) (some 48) (ydo_q rfl kr (op_load (c:=C_52) (xs:=z1.Pages) (e:=52) (r:=1) (π:=[0+(Int.toNat v1.2)*17+14+0]) (o:=0+(Int.toNat v2.Page)*3+0) (i:=(Int.toNat v2.Page)) (off:=0) (v:=ii (z2.Frame)) len_C_52 kr (get_fl (e:=55) (e':=52) (sz':=3) (m':=(List.length (z1.Pages))) (cs':=(fl C_52 (z1.Pages))) (c:=O_55) (xs:=v1.1.Guests) (i:=(Int.toNat v1.2)) (off:=14) len_O_55 kr ltn ltn dd rfl kr) ltn ltn dd kr ?_)))
   refine dj 2 (sp 127 [z6,z24,z10,z12,z47,z7,z23,z25,z26,z27,z31,z8,z37,z38,z39,z42,(49,bb (decide ((z2.Frame)=(-1:Int)))),(50,bb (decide ((z2.Frame)=(-1:Int))))]) [z34,z33,z35,z36,z49,z48,z50] 7 ?_
   rcases cond_sf hh with ⟨hb,hh⟩ | ⟨hb,hh⟩
   · exact dbs (t:=49) hb kr (dbs (t:=50) hb kr (dt (sp 127 [z6,z24,z10,z12,z47,z7,z23,z25,z26,z27,z31,z8,z37,z38,z39,z42,(49,bb false),(50,bb false),(51,.und),(52,.und),(53,.und),(54,.und),(55,.und),(56,.und),(57,.und)]) [z34,z33,z35,z36,z49,z48,z50] 7 (yt (sp 127 [z5]) [] 7 (Aw.ret (then_r (gvbs hh))))))
   refine dbs (t:=49) hb kr (dbs (t:=50) hb kr (dj 3 (sp 127 [z6,z24,z10,z12,z47,z7,z23,z25,z26,z27,z31,z8,z37,z38,z39,z42,z9,z11,z45,(52,bb (!v4.2)),(53,bb (!v4.2))]) [z34,z33,z35,z36,z49,z48,z50] 7 ?_))
   rcases cond_some hh with ⟨hb,hh⟩ | ⟨hb,hh⟩
   · exact dbs (t:=52) hb kr (dbs (t:=53) hb kr (dt (sp 127 [z6,z24,z10,z12,z47,z7,z23,z25,z26,z27,z31,z8,z37,z38,z39,z42,z9,z11,z45,(52,bb true),(53,bb true),(54,.und),(55,.und),(56,.und),(57,.und)]) [z34,z33,z35,z36,z49,z48,z50] 7 (yt (sp 127 [(2,bb true)]) [] 7 (Aw.ret (then_r (gvbs hh))))))
   refine dbs (t:=52) hb kr (dbs (t:=53) hb kr (dj 2 (sp 127 [z6,z24,z10,z12,z47,z7,z23,z25,z26,z27,z31,z8,z37,z38,z39,z42,z9,z11,z45,(52,bb false),(53,bb false),z46,(55,ii v1.2)]) [z34,z33,z35,z36,z49,z48,z50] 7 ?_))
   obtain ⟨v5,hv5,hh⟩:=bind_some hh
   refine dsg (op:=(.call 23 [(.t 54),(.t 55)])) (d:=(some 56)) (t:=53) (want:=false) (os:=(List.drop 19 (rg 5 10))) kr kr rfl (ydo_n rfl (op_call (r:=.agg (C_47 v5)) (v:=.agg (C_47 v5)) (Hr:=[]) (n':=7) (impl_GuestExit_fn hv5) (clz_v (vs:=[.agg [sw 4 v4.1.Words,.sref 5 [] 0 (List.length v4.1.Guests) 17],ii v1.2]) kr (clz_c (clo_agg (clos_c (clo_own (c:=(eI .i64)) (xs:=v4.1.Words) (e:=3) eqn len_eI no_eI cl_eI kr) (clos_c (clo_flr (B:=B_55) (xs:=v4.1.Guests) (e:=55) oc_O_55 len_O_55 eqn kr) clos_n))) (cz1 clz_n))) rfl rfl kr ⟨⟨agr_name (n:=7) (n0:=7) (r:=.agg (C_47 v5)) (v:=.agg (C_47 v5)) (Hr:=[]) (n':=7) kr dd,Hld.un ?_⟩⟩))
   exact dt (sp 127 [z6,z24,z10,z12,z47,z7,z23,z25,z26,z27,z31,z8,z37,z38,z39,z42,z9,z11,z45,(52,bb false),(53,bb false),z46,(55,ii v1.2),(56,.agg (C_47 v5)),(57,.agg (C_47 v2))]) [z34,z33,z35,z36,z49,z48,z50] 7 (yt (sp 127 [(2,bb (!(decide (v5.Why=v2.Why) && (decide (v5.Page=v2.Page) && (decide (v5.What.Op=v2.What.Op) && (decide (v5.What.A=v2.What.A) && (decide (v5.What.N=v2.What.N) && true)))))))]) [] 7 (Aw.ret (then_r (gvbs hh))))
 refine cF hb (Aw.xskip (fun _ _ _ hq=>then_m hq) (Aw.seq (sy [3,4,5,63] [0,1,2,3] (sp 127 [z6,z24,z10,z40]) [z34,z33,z35,z36] 4 ?_)))
 rcases cond_sf hh with ⟨hb,hh⟩ | ⟨hb,hh⟩
 · refine cF hb (Aw.xskip (fun _ _ _ hq=>then_m hq) (Aw.sreg [2] [] (yj 4  (sp 127 [z6,z24,z10,z40,(101,pp 3),(102,ii v2.Why),(103,bb (decide (v2.Why=(0:Int)))),(104,bb (decide (v2.Why=(0:Int))))]) [z34,z33,z35,z36] 4 ?_)))
   rcases cond_some hh with ⟨hb,hh⟩ | ⟨hb,hh⟩
   · refine yb 103 hb (yb 104 hb (yu 20 [(103,bb true),(104,bb true),(105,.und),(106,.und),(107,.und),(108,.und),(109,.und),(110,.und),(111,.und),(112,.und),(113,.und),(114,.und),(115,.und),(116,.und),(117,.und),(118,.und),(119,.und),(120,.und),(121,.und),(122,.und),(123,bb true),(124,bb true)] [z34,z33,z35,z36] 4 ?_))
     obtain ⟨v8,hv8,hh⟩:=bind_some hh
     refine yg (.call 16 []) (some 125) 124 true (oc (laws_alive_fn hv8) ?_)
     exact yt (sp 127 [(2,bb v8)]) [] 4 (Aw.ret (gvbs hh))
   refine yb 103 hb (yb 104 hb (yu 4 [(103,bb false),(104,bb false),(105,pp 3),(106,ii v2.Why),(107,bb (decide (v2.Why=(1:Int)))),(108,bb (decide (v2.Why=(1:Int))))] [z34,z33,z35,z36] 4 ?_))
   rcases cond_sf hh with ⟨hb,hh⟩ | ⟨hb,hh⟩
   · exact yb 107 hb (yb 108 hb (yt (sp 127 [z5]) [] 4 (Aw.ret (gvbs hh))))
   refine yb 107 hb (yb 108 hb (yu 2 [(107,bb true),(108,bb true),(109,.ptr 3 [] 2),(110,.agg (C_45 v2.What))] [z34,z33,z35,z36] 4 ?_))
   obtain ⟨v9,hv9,hh⟩:=bind_some hh
   refine yg (.call 27 [(.t 110)]) (some 111) 108 true (oc (impl_InsKernel_fn hv9) ?_)
   refine yu 2 [(111,bb v9),(112,bb v9),(113,bb v9)] [z34,z33,z35,z36] 4 ?_
   rcases cond_sf hh with ⟨hb,hh⟩ | ⟨hb,hh⟩
   · exact yb 111 hb (yb 112 hb (yb 113 hb (yt (sp 127 [z5]) [] 4 (Aw.ret (gvbs hh)))))
   refine yb 111 hb (yb 112 hb (yb 113 hb ?_))
   obtain ⟨hg18,hh⟩:=grd_some hh
   refine yjc 6 [(0:Int)≤v1.2∧v1.2<(((List.length v1.1.Guests):Nat):Int)] (sp 127 [z6,z24,z10,z40,(101,pp 3),(102,ii v2.Why),(103,bb false),(104,bb false),(105,pp 3),(106,ii v2.Why),(107,bb true),(108,bb true),(109,.ptr 3 [] 2),(110,.agg (C_45 v2.What)),(111,bb true),(112,bb true),(113,bb true),(114,.ptr 2 [] 1),(115,.sref 1 [] 0 (List.length v1.1.Guests) 17),(116,ii v1.2),(117,.ptr 1 [] (0+(Int.toNat v1.2)*17)),(118,.ptr 1 [] (0+(Int.toNat v1.2)*17+1)),(119,.ptr 1 [] (0+(Int.toNat v1.2)*17+1+10))]) [z34,z33,z35,z36] 4 (.cons hg18 .nil) (yg (.load false 1 (.t 119)) (some 120) 113 true (op_load (c:=O_55) (xs:=v1.1.Guests) (e:=55) (r:=1) (π:=[]) (o:=0+(Int.toNat v1.2)*17+1+10) (i:=(Int.toNat v1.2)) (off:=11) (v:=bb ((z1.C).User)) len_O_55 kr kr ltn ltn dd kr ?_))
   refine yu 4 [(120,bb ((z1.C).User)),(121,bb (!((z1.C).User))),(122,bb (!((z1.C).User))),(123,bb (!((z1.C).User))),(124,bb (!((z1.C).User)))] [z34,z33,z35,z36] 4 ?_
   rcases cond_sf hh with ⟨hb,hh⟩ | ⟨hb,hh⟩
   · exact yb 121 hb (yb 122 hb (yb 123 hb (yb 124 hb (yt (sp 127 [z5]) [] 4 (Aw.ret (gvbs hh))))))
   refine yb 121 hb (yb 122 hb (yb 123 hb (yb 124 hb ?_)))
   obtain ⟨v10,hv10,hh⟩:=bind_some hh
   refine yg (.call 16 []) (some 125) 124 true (oc (laws_alive_fn hv10) ?_)
   exact yt (sp 127 [(2,bb v10)]) [] 4 (Aw.ret (gvbs hh))
 refine cT hb (Aw.sregd [3,4,5,8] [0,1,2,3,4] [] kr ?_)
 obtain ⟨hg16,hh⟩:=grd_some hh
 refine dc (cs:=[(0:Int)≤v1.2∧v1.2<(((List.length v1.1.Guests):Nat):Int)]) (E':=(sp 127 [z6,z24,z10,z40,(64,.ptr 2 [] 1),z28,(66,ii v1.2),z29,z30])) (H':=[z34,z33,z35,z36]) (n':=4) (fs':=none) (pre:=(List.take 5 (rg 5 13))) (L':=(List.drop 5 (rg 5 13))) kr (fun K=>by kernel_rfl) (.cons hg16 .nil) (ds (.load false 1 (.t 68)) (some 69) (ydo_q rfl kr (op_load (c:=O_55) (xs:=v1.1.Guests) (e:=55) (r:=1) (π:=[]) (o:=0+(Int.toNat v1.2)*17+14) (i:=(Int.toNat v1.2)) (off:=14) (v:=.sref 1 [0+(Int.toNat v1.2)*17+14+0] 0 (List.length (z1.Pages)) 3) len_O_55 kr kr ltn ltn dd kr ?_)))
 obtain ⟨hg15,hh⟩:=grd_some hh
 refine dc (cs:=[(0:Int)≤v2.Page∧v2.Page<(((List.length (z1.Pages)):Nat):Int)]) (E':=(sp 127 [z6,z24,z10,z40,(64,.ptr 2 [] 1),z28,(66,ii v1.2),z29,z30,z32,(70,.ptr 3 [] 1),(71,ii v2.Page),z41])) (H':=[z34,z33,z35,z36]) (n':=4) (fs':=none) (pre:=(List.take 3 (List.drop 6 (rg 5 13)))) (L':=(List.drop 9 (rg 5 13))) kr (fun K=>by kernel_rfl) (.cons hg15 .nil) (ds (.load true 3 (.t 72)) (some 73) (ydo_q rfl kr (op_loadA (c:=C_52) (xs:=z1.Pages) (e:=52) (r:=1) (π:=[0+(Int.toNat v1.2)*17+14+0]) (o:=0+(Int.toNat v2.Page)*3) (i:=(Int.toNat v2.Page)) (off:=0) (v:=.agg [ii (z2.Frame),bb (z2.Write),bb (z2.Dirty)]) len_C_52 kr (get_fl (e:=55) (e':=52) (sz':=3) (m':=(List.length (z1.Pages))) (cs':=(fl C_52 (z1.Pages))) (c:=O_55) (xs:=v1.1.Guests) (i:=(Int.toNat v1.2)) (off:=14) len_O_55 kr ltn ltn dd rfl kr) ltn ltn dd kr ?_)))
 refine dt (sp 127 [z6,z24,z10,z13,z40,(64,.ptr 2 [] 1),z28,(66,ii v1.2),z29,z30,z32,(70,.ptr 3 [] 1),(71,ii v2.Page),z41,(73,.agg [ii (z2.Frame),bb (z2.Write),bb (z2.Dirty)])]) [(4,some ⟨52,[ii 0,bb false,bb false]⟩),z34,z33,z35,z36] 5 ?_
 let q7:Root:=⟨52,[ii (z2.Frame),bb (z2.Write),bb (z2.Dirty)]⟩; let z51:=(4,some q7)
 refine yt (sp 127 [z6,z24,z10,z13]) [z34,z33,z35,z36,z51] 5 (Aw.sreg [4,5,8,9,10] [3,4,5,6,7] (yu 4 [(75,.agg [sw 0 v1.1.Words,.sref 1 [] 0 (List.length v1.1.Guests) 17]),(76,ii v1.2),(77,.ptr 3 [] 1),(78,ii v2.Page)] [z34,z33,z35,z36,z51] 5 ?_))
 obtain ⟨v6,hv6,hh⟩:=bind_some hh
 let z52:=(10,bb v6.2); let z53:=(91,bb v6.2); let z54:EV:=(94,.agg [sw 5 v6.1.Words,.sref 6 [] 0 (List.length v6.1.Guests) 17]); let q8:Root:=(rO55 v6.1.Guests); let z55:=(6,some q8); let q9:Root:=(rI_3 v6.1.Words); let z56:=(5,some q9)
 refine ys (.call 26 [(.t 75),(.t 76),(.t 78)]) (some 79) (op_call (r:=.tup [.agg [.own 3 1 (List.length v6.1.Words) (fl (eI .i64) v6.1.Words),.own 55 17 (List.length v6.1.Guests) (fl O_55 v6.1.Guests)],bb v6.2]) (v:=.tup [.agg [sw 5 v6.1.Words,.sref 6 [] 0 (List.length v6.1.Guests) 17],bb v6.2]) (Hr:=[z55,z56]) (n':=7) (impl_HostCopy_fn hv6) (clz_v (vs:=[.agg [sw 0 v1.1.Words,.sref 1 [] 0 (List.length v1.1.Guests) 17],ii v1.2,ii v2.Page]) kr (clz_c (clo_agg (clos_c (clo_own (c:=(eI .i64)) (xs:=v1.1.Words) (e:=3) eqn len_eI no_eI cl_eI kr) (clos_c (clo_flr (B:=B_55) (xs:=v1.1.Guests) (e:=55) oc_O_55 len_O_55 eqn kr) clos_n))) (cz1 (cz1 clz_n)))) nrr nrr kr ?_)
 let q10:Root:=⟨41,[sw 5 v6.1.Words,.sref 6 [] 0 (List.length v6.1.Guests) 17]⟩; let z57:=(7,some q10)
 refine yt (sp 127 [z24,z10,z13,z20,z52]) [z36,z51,z56,z55,z57] 8 (Aw.sregd [2] [] [] kr (dj 4 (sp 127 [z24,z10,z13,z20,z52,z14,z43,(84,bb (decide ((0:Int)≤(z2.Frame)))),(85,bb (decide ((0:Int)≤(z2.Frame))))]) [z36,z51,z56,z55,z57] 8 ?_))
 rcases cond_sf hh with ⟨hb,hh⟩ | ⟨hb,hh⟩
 · exact dbs (t:=84) hb kr (dbs (t:=85) hb kr (dt (sp 127 [z24,z10,z13,z20,z52,z14,z43,(84,bb false),(85,bb false),(86,.und),(87,.und),(88,.und),(89,bb false),(90,bb false),(91,.und),(92,.und),(93,.und),(94,.und),(95,.und),(96,.und),(97,.und)]) [z36,z51,z56,z55,z57] 8 (yt (sp 127 [z5]) [] 8 (Aw.ret (then_r (gvbs hh))))))
 refine dbs (t:=84) hb kr (dbs (t:=85) hb kr (dj 5 (sp 127 [z24,z10,z13,z20,z52,z14,z43,z15,z16,z17,z44,(88,bb (!(z2.Write))),(89,bb (!(z2.Write))),(90,bb (!(z2.Write)))]) [z36,z51,z56,z55,z57] 8 ?_))
 rcases cond_sf hh with ⟨hb,hh⟩ | ⟨hb,hh⟩
 · exact dbs (t:=88) hb kr (dbs (t:=89) hb kr (dbs (t:=90) hb kr (dt (sp 127 [z24,z10,z13,z20,z52,z14,z43,z15,z16,z17,z44,(88,bb false),(89,bb false),(90,bb false),(91,.und),(92,.und),(93,.und),(94,.und),(95,.und),(96,.und),(97,.und)]) [z36,z51,z56,z55,z57] 8 (yt (sp 127 [z5]) [] 8 (Aw.ret (then_r (gvbs hh)))))))
 refine dbs (t:=88) hb kr (dbs (t:=89) hb kr (dbs (t:=90) hb kr (dj 3 (sp 127 [z24,z10,z13,z20,z52,z14,z43,z15,z16,z17,z44,z18,z19,z21,z53,(92,bb (!v6.2)),(93,bb (!v6.2))]) [z36,z51,z56,z55,z57] 8 ?_)))
 rcases cond_some hh with ⟨hb,hh⟩ | ⟨hb,hh⟩
 · exact dbs (t:=92) hb kr (dbs (t:=93) hb kr (dt (sp 127 [z24,z10,z13,z20,z52,z14,z43,z15,z16,z17,z44,z18,z19,z21,z53,(92,bb true),(93,bb true),(94,.und),(95,.und),(96,.und),(97,.und)]) [z36,z51,z56,z55,z57] 8 (yt (sp 127 [(2,bb true)]) [] 8 (Aw.ret (then_r (gvbs hh))))))
 refine dbs (t:=92) hb kr (dbs (t:=93) hb kr (dj 2 (sp 127 [z24,z10,z13,z20,z52,z14,z43,z15,z16,z17,z44,z18,z19,z21,z53,(92,bb false),(93,bb false),z54,(95,ii v1.2)]) [z36,z51,z56,z55,z57] 8 ?_))
 obtain ⟨v7,hv7,hh⟩:=bind_some hh
 refine dsg (op:=(.call 23 [(.t 94),(.t 95)])) (d:=(some 96)) (t:=93) (want:=false) (os:=(List.drop 15 (rg 5 16))) kr kr rfl (ydo_n rfl (op_call (r:=.agg (C_47 v7)) (v:=.agg (C_47 v7)) (Hr:=[]) (n':=8) (impl_GuestExit_fn hv7) (clz_v (vs:=[.agg [sw 5 v6.1.Words,.sref 6 [] 0 (List.length v6.1.Guests) 17],ii v1.2]) kr (clz_c (clo_agg (clos_c (clo_own (c:=(eI .i64)) (xs:=v6.1.Words) (e:=3) eqn len_eI no_eI cl_eI kr) (clos_c (clo_flr (B:=B_55) (xs:=v6.1.Guests) (e:=55) oc_O_55 len_O_55 eqn kr) clos_n))) (cz1 clz_n))) rfl rfl kr ⟨⟨agr_name (n:=8) (n0:=8) (r:=.agg (C_47 v7)) (v:=.agg (C_47 v7)) (Hr:=[]) (n':=8) kr dd,Hld.un ?_⟩⟩))
 exact dt (sp 127 [z24,z10,z13,z20,z52,z14,z43,z15,z16,z17,z44,z18,z19,z21,z53,(92,bb false),(93,bb false),z54,(95,ii v1.2),(96,.agg (C_47 v7)),(97,.agg (C_47 v2))]) [z36,z51,z56,z55,z57] 8 (yt (sp 127 [(2,bb (!(decide (v7.Why=v2.Why) && (decide (v7.Page=v2.Page) && (decide (v7.What.Op=v2.What.Op) && (decide (v7.What.A=v2.What.A) && (decide (v7.What.N=v2.What.N) && true)))))))]) [] 8 (Aw.ret (then_r (gvbs hh))))
end Go.Proofs.Ytbanbjdcgdmkaaa
