/- Plain functions of the program, and that it hands back what they say. Made by program. -/
import Derived.Test.YtbanbjdcgdmkaaaWT
import Derived.Test.YtbanbjdcgdmkaaaProg
import Derived.Test.YtbanbjdcgdmkaaaWT5
import Derived.Test.YtbanbjdcgdmkaaaWEI1
import Derived.Test.YtbanbjdcgdmkaaaWHE1
import Derived.Test.YtbanbjdcgdmkaaaWHM1
import Derived.Test.YtbanbjdcgdmkaaaWHT1
namespace Go.Proofs.Ytbanbjdcgdmkaaa
open Go.RowKit
set_option maxRecDepth 100000
set_option linter.all false
set_option maxHeartbeats 0
theorem low_laws_FnExactHostEmulate:LW 10 ⟨109,[(.tmp 6)],(.seq (.reg false (rg 10 0)) (.seq (.reg false (rg 10 1)) (.seq (.reg false (rg 10 2)) (.seq (.seq (.reg false (rg 10 3)) (.cond (.t 22) (.seq (.reg false (rg 10 4)) .ret) .skip)) (.seq (.regd (rg 10 5) (rg 10 6)) (.seq (.reg false (rg 10 7)) (.seq (.regd (rg 10 8) (rg 10 9)) (.seq (.seq (.reg false (rg 10 10)) (.cond (.t 50) (.seq (.reg false (rg 10 11)) .ret) .skip)) (.seq (.seq (.regd (rg 10 12) (rg 10 13)) (.cond (.t 55) (.seq (.reg false (rg 10 14)) .ret) .skip)) (.seq (.reg false (rg 10 15)) (.seq (.reg false (rg 10 16)) (.seq (.seq (.reg false (rg 10 17)) (.cond (.t 71) (.seq (.reg false (rg 10 18)) .ret) .skip)) (.seq (.reg false (rg 10 19)) (.seq (.reg false (rg 10 20)) (.seq (.reg false (rg 10 21)) (.seq (.reg false (rg 10 22)) (.seq (.seq (.reg false (rg 10 23)) (.cond (.t 79) (.seq (.reg false (rg 10 24)) .ret) .skip)) (.seq (.seq (.reg false (rg 10 25)) (.cond (.t 82) (.seq (.reg false (rg 10 26)) .ret) .skip)) (.seq (.regd (rg 10 27) (rg 10 28)) (.seq (.seq (.reg false (rg 10 29)) (.cond (.t 100) (.seq (.reg false (rg 10 30)) .ret) .skip)) (.seq (.reg false (rg 10 31)) (.seq (.reg false (rg 10 32)) (.seq (.seq (.reg false (rg 10 33)) (.cond (.t 105) (.seq (.reg false (rg 10 34)) .ret) .skip)) (.seq (.seq (.reg false (rg 10 35)) (.cond (.t 108) (.seq (.reg false (rg 10 36)) .ret) .skip)) (.seq (.reg false (rg 10 37)) .ret)))))))))))))))))))))))))⟩:=kr
noncomputable def F_laws_FnExactHostEmulate (x_aH:DHost) (x_aG:Int) (x_aI:DIns):Option Bool :=
 Option.bind (F_laws_szHost x_aH (1048576:Int)) fun v1 =>
 cond (decide (v1<(0:Int)))
  (some true)
  (Option.bind (F_laws_toHost x_aH) fun v2 =>
  Option.bind (F_laws_toIns x_aI) fun v3 =>
  Option.bind (F_spec_HostEmulate v2 x_aG v3) fun v4 =>
  Option.bind (F_laws_toHost x_aH) fun v5 =>
  Option.bind (F_laws_toIns x_aI) fun v6 =>
  Option.bind (F_impl_HostEmulate v5 x_aG v6) fun v7 =>
  Option.bind (F_laws_eqHost v7.1 v4.1) fun v8 =>
  cond (!v8)
   (some false)
   (cond (!(v7.2 == v4.2))
    (some false)
    (Option.bind (F_laws_toHost x_aH) fun v9 =>
    Option.bind (F_laws_eqHost v5 v9) fun v10 =>
    cond (!v10)
     (some false)
     (Option.bind (F_laws_markHost v5 (1:Int)) fun v11 =>
     grd (List.length v11.1=(List.length v5.Words)) (grd (List.length v11.2.1=(List.length v5.Guests)) (cond (decide (v11.2.2<(0:Int)))
      (some false)
      (Option.bind (F_laws_eqHost v7.1 v4.1) fun v12 =>
      cond (!v12)
       (some false)
       (cond (!(v7.2 == v4.2))
        (some false)
        (Option.bind (F_laws_markHost v7.1 (1:Int)) fun v13 =>
        grd (List.length v13.1=(List.length v7.1.Words)) (grd (List.length v13.2.1=(List.length v7.1.Guests)) (Option.bind (F_laws_heldHost (DHost.mk v13.1 v13.2.1) (1:Int)) fun v14 =>
         cond (decide (v14<(0:Int)))
          (some false)
          (cond (!decide (v14=v13.2.2))
           (some false)
           (Option.bind (F_laws_toHost x_aH) fun v15 =>
           Option.bind (F_laws_toIns x_aI) fun v16 =>
           Option.bind (F_impl_HostEmulate v15 x_aG v16) fun v17 =>
           Option.bind (F_laws_eqHost v17.1 v4.1) fun v18 =>
           cond (!v18)
            (some false)
            (cond (!(v17.2 == v4.2))
             (some false)
             (Option.bind (F_laws_heldHost (DHost.mk v13.1 v13.2.1) (1:Int)) fun v19 =>
             cond (decide (v19<(0:Int)))
              (some false)
              (cond (!decide (v19=v13.2.2))
               (some false)
               (some true)))))))))))))))))
theorem laws_FnExactHostEmulate_fn {x_aH:DHost} {x_aG:Int} {x_aI:DIns} {R_:Bool} (hh:F_laws_FnExactHostEmulate x_aH x_aG x_aI=some R_):Fn Try.prog 10 [.agg [bo (eI .i64) x_aH.Words,bo B_157 x_aH.Guests],.int .i64 x_aG,.agg (C_45 x_aI)] (.bool R_):=by
 let z1:=(1,ii x_aG); let z2:EH:=(1,some ⟨80,(C_45 x_aI)⟩); let z3:=(10,pp 7); let z4:=(11,pp 10); let z5:EV:=(24,.agg [bo (eI .i64) x_aH.Words,bo B_157 x_aH.Guests]); let z6:=(3,pp 0); let z7:=(5,pp 1); let z8:EV:=(52,.agg [bo (eI .i64) x_aH.Words,bo B_157 x_aH.Guests]); let z9:=(6,bb false); let z10:=(8,pp 4); let z11:EV:=(84,.agg [bo (eI .i64) x_aH.Words,bo B_157 x_aH.Guests])
 unfold F_laws_FnExactHostEmulate at hh
 refine Fn.start low_laws_FnExactHostEmulate [0,1,2] (E:=sp 109 [(0,.agg [bo (eI .i64) x_aH.Words,bo B_157 x_aH.Guests]),z1,(2,.agg (C_45 x_aI))]) kr (v:=bb R_) (Hr:=[]) (k:=0) kr (Aw.sreg [1,3,5] [0,1] ?_)
 let q1:Root:=⟨75,[bo (eI .i64) x_aH.Words,bo B_157 x_aH.Guests]⟩; let z12:=(0,some q1)
 refine yt (sp 109 [z1,z6,z7]) [z12,z2] 2 (sy [1,3,5,7] [0,1] (sp 109 [z1,z6,z7,(7,ii 1048576)]) [z12,z2] 2 (Aw.sreg [1,3,5,7] [0,1] (yu 2 [(18,.agg [bo (eI .i64) x_aH.Words,bo B_157 x_aH.Guests]),(19,ii 1048576)] [z12,z2] 2 ?_)))
 obtain ⟨v1,hv1,hh⟩:=bind_some hh
 let z13:=(22,bb (decide (v1<(0:Int))))
 refine ys (.call 40 [(.t 18),(.t 19)]) (some 20) (op_call (r:=ii v1) (v:=ii v1) (Hr:=[]) (n':=2) (laws_szHost_fn hv1) (clz_v (vs:=[.agg [bo (eI .i64) x_aH.Words,bo B_157 x_aH.Guests],ii 1048576]) kr (clz_c (clo_agg cz) (cz1 clz_n))) rfl rfl kr ?_)
 refine yt (sp 109 [z1,z6,z7,(7,ii v1)]) [z12,z2] 2 (Aw.seq (sy [1,3,5,22] [0,1] (sp 109 [z1,z6,z7,z13]) [z12,z2] 2 ?_))
 rcases cond_some hh with ⟨hb,hh⟩ | ⟨hb,hh⟩
 · exact cT hb (sy [6] [] (sp 109 [(6,bb true)]) [] 2 (Aw.ret (then_r (gvbs hh))))
 refine cF hb (Aw.xskip (fun _ _ _ hq=>then_m hq) (Aw.sregd [1,3,5,8,9] [0,1,4] [] kr (dj 1 (sp 109 [z1,z6,z7,z13,z5]) [z12,z2] 2 ?_)))
 obtain ⟨v2,hv2,hh⟩:=bind_some hh
 let z14:EV:=(25,.agg [sw 2 v2.Words,.sref 3 [] 0 (List.length v2.Guests) 17]); let q2:Root:=(rO55 v2.Guests); let z15:=(3,some q2); let q3:Root:=(rI_3 v2.Words); let z16:=(2,some q3)
 refine ds (.call 41 [(.t 24)]) (some 25) (ydo_n rfl (op_call (r:=.agg [.own 3 1 (List.length v2.Words) (fl (eI .i64) v2.Words),.own 55 17 (List.length v2.Guests) (fl O_55 v2.Guests)]) (v:=.agg [sw 2 v2.Words,.sref 3 [] 0 (List.length v2.Guests) 17]) (Hr:=[z15,z16]) (n':=4) (laws_toHost_fn hv2) (clz_v (vs:=[.agg [bo (eI .i64) x_aH.Words,bo B_157 x_aH.Guests]]) kr (clz_c (clo_agg cz) clz_n)) nrr nrr kr ⟨⟨agr_name (n:=2) (n0:=2) (r:=.agg [.own 3 1 (List.length v2.Words) (fl (eI .i64) v2.Words),.own 55 17 (List.length v2.Guests) (fl O_55 v2.Guests)]) (v:=.agg [sw 2 v2.Words,.sref 3 [] 0 (List.length v2.Guests) 17]) (Hr:=[z15,z16]) (n':=4) kr dd,Hld.un ?_⟩⟩))
 refine dj 2 (sp 109 [z1,z6,z7,z13,z5,z14,(26,ii x_aG),(27,.agg (C_45 x_aI))]) [z15,z16,z12,z2] 4 ?_
 obtain ⟨v3,hv3,hh⟩:=bind_some hh
 refine ds (.call 44 [(.t 27)]) (some 28) (ydo_n rfl (op_call (r:=.agg (C_45 v3)) (v:=.agg (C_45 v3)) (Hr:=[]) (n':=4) (laws_toIns_fn hv3) (clz_v (vs:=[.agg (C_45 x_aI)]) kr (cz1 clz_n)) rfl rfl kr ⟨⟨agr_name (n:=4) (n0:=2) (r:=.agg (C_45 v3)) (v:=.agg (C_45 v3)) (Hr:=[]) (n':=4) kr dd,Hld.un ?_⟩⟩))
 obtain ⟨v4,hv4,hh⟩:=bind_some hh
 let z17:EH:=(4,some (rB41 v4.1)); let z18:=(9,bb v4.2)
 refine ds (.call 30 [(.t 25),(.t 26),(.t 28)]) (some 29) (ydo_n rfl (op_callz (args:=[.agg [sw 2 v2.Words,.sref 3 [] 0 (List.length v2.Guests) 17],ii x_aG,.agg (C_45 v3)]) (args2:=[.agg (B_41 v2),ii x_aG,.agg (C_45 v3)]) (H2:=[(3,none),(2,none),z15,z16,z12,z2]) (r:=.tup [.agg (B_41 v4.1),bb v4.2]) (v:=.tup [.agg (B_41 v4.1),bb v4.2]) (Hr:=[]) (n':=4) kr (Ent.trans (Ent.freezeOK (R:=3) (O:=O_55) (B:=B_55) (xs:=v2.Guests) (e:=55) (us2:=[.agg (B_41 v2),ii x_aG,.agg (C_45 v3)]) kr th_O_55 sh_O_55 (frs_c (.agg _ _ (frs_c (.same _) (frs_c (fr_all len_B_55 eqn) frs_n))) (frs_c (.same _) (frs_c (.same _) frs_n)))) (Ent.freezeK (R:=2) (cs:=(fl (eI .i64) v2.Words)) (e:=3) (xs2:=[.agg [bo (eI .i64) v2.Words,.sref 3 [] 0 (List.length v2.Guests) 17],ii x_aG,.agg (C_45 v3)]) kr (noOwn_fl no_eI) (frs_c (.agg _ _ (frs_c (fr_all len_eI eqn) (frs_c (.same _) frs_n))) (frs_c (.same _) (frs_c (.same _) frs_n))))) (spec_HostEmulate_fn hv4) (clz_c (clo_same (clean_agg (cl_B_41 _))) (cz1 (cz1 clz_n))) nrr kr ⟨⟨(Agr.trans (agr_put (r:=2) (t:=none) dd) (Agr.trans (agr_put (r:=3) (t:=none) dd) (agr_name (n:=4) (n0:=2) (r:=.tup [.agg (B_41 v4.1),bb v4.2]) (v:=.tup [.agg (B_41 v4.1),bb v4.2]) (Hr:=[]) (n':=4) kr dd))),Hld.un ?_⟩⟩))
 refine dt (sp 109 [z1,z6,z7,z10,z13,(23,.tup [.agg (B_41 v4.1),bb v4.2]),z5,z14,(26,ii x_aG),(27,.agg (C_45 x_aI)),(28,.agg (C_45 v3)),(29,.tup [.agg (B_41 v4.1),bb v4.2]),(30,.agg (B_41 v4.1)),(31,bb v4.2)]) [(4,some ⟨41,[.nil,.nil]⟩),(3,none),(2,none),z15,z16,z12,z2] 5 (yt (sp 109 [z1,z6,z7,z10,z18]) [z12,z2,z17] 5 (Aw.sreg [1,3,5,8,9,10] [0,1,4,5,6,7] (yu 1 [(32,.agg [bo (eI .i64) x_aH.Words,bo B_157 x_aH.Guests])] [z12,z2,z17] 5 ?_)))
 obtain ⟨v5,hv5,hh⟩:=bind_some hh
 let z19:EV:=(35,.agg [sw 5 v5.Words,.sref 6 [] 0 (List.length v5.Guests) 17]); let z20:EV:=(51,.agg [sw 5 v5.Words,.sref 6 [] 0 (List.length v5.Guests) 17]); let q4:Root:=(rO55 v5.Guests); let z21:=(6,some q4); let q5:Root:=(rI_3 v5.Words); let z22:=(5,some q5)
 refine ys (.call 41 [(.t 32)]) (some 33) (op_call (r:=.agg [.own 3 1 (List.length v5.Words) (fl (eI .i64) v5.Words),.own 55 17 (List.length v5.Guests) (fl O_55 v5.Guests)]) (v:=.agg [sw 5 v5.Words,.sref 6 [] 0 (List.length v5.Guests) 17]) (Hr:=[z21,z22]) (n':=7) (laws_toHost_fn hv5) (clz_v (vs:=[.agg [bo (eI .i64) x_aH.Words,bo B_157 x_aH.Guests]]) kr (clz_c (clo_agg cz) clz_n)) nrr nrr kr ?_)
 let q6:Root:=⟨41,[sw 5 v5.Words,.sref 6 [] 0 (List.length v5.Guests) 17]⟩; let z23:=(7,some q6)
 refine yt (sp 109 [z1,z6,z7,z10,z18,z3]) [z12,z2,z17,z22,z21,z23] 8 (Aw.sregd [1,3,5,8,9,10,11,12] [0,1,4,5,6,7,8,9,10] [] kr (dj 3 (sp 109 [z1,z6,z7,z10,z18,z3,z19,(36,ii x_aG),(37,.agg (C_45 x_aI))]) [z12,z2,z17,z22,z21,z23] 8 ?_))
 obtain ⟨v6,hv6,hh⟩:=bind_some hh
 refine ds (.call 44 [(.t 37)]) (some 38) (ydo_n rfl (op_call (r:=.agg (C_45 v6)) (v:=.agg (C_45 v6)) (Hr:=[]) (n':=8) (laws_toIns_fn hv6) (clz_v (vs:=[.agg (C_45 x_aI)]) kr (cz1 clz_n)) rfl rfl kr ⟨⟨agr_name (n:=8) (n0:=8) (r:=.agg (C_45 v6)) (v:=.agg (C_45 v6)) (Hr:=[]) (n':=8) kr dd,Hld.un ?_⟩⟩))
 obtain ⟨v7,hv7,hh⟩:=bind_some hh
 let z24:=(12,bb v7.2); let z25:=(50,bb (!(v7.2 == v4.2))); let q7:Root:=(rO55 v7.1.Guests); let z26:=(9,some q7); let q8:Root:=(rI_3 v7.1.Words); let z27:=(8,some q8)
 refine ds (.call 29 [(.t 35),(.t 36),(.t 38)]) (some 39) (ydo_n rfl (op_call (r:=.tup [.agg [.own 3 1 (List.length v7.1.Words) (fl (eI .i64) v7.1.Words),.own 55 17 (List.length v7.1.Guests) (fl O_55 v7.1.Guests)],bb v7.2]) (v:=.tup [.agg [sw 8 v7.1.Words,.sref 9 [] 0 (List.length v7.1.Guests) 17],bb v7.2]) (Hr:=[z26,z27]) (n':=10) (impl_HostEmulate_fn hv7) (clz_v (vs:=[.agg [sw 5 v5.Words,.sref 6 [] 0 (List.length v5.Guests) 17],ii x_aG,.agg (C_45 v6)]) kr (clz_c (clo_agg (clos_c (clo_own (c:=(eI .i64)) (xs:=v5.Words) (e:=3) eqn len_eI no_eI cl_eI kr) (clos_c (clo_flr (B:=B_55) (xs:=v5.Guests) (e:=55) oc_O_55 len_O_55 eqn kr) clos_n))) (cz1 (cz1 clz_n)))) nrr nrr kr ⟨⟨agr_name (n:=8) (n0:=8) (r:=.tup [.agg [.own 3 1 (List.length v7.1.Words) (fl (eI .i64) v7.1.Words),.own 55 17 (List.length v7.1.Guests) (fl O_55 v7.1.Guests)],bb v7.2]) (v:=.tup [.agg [sw 8 v7.1.Words,.sref 9 [] 0 (List.length v7.1.Guests) 17],bb v7.2]) (Hr:=[z26,z27]) (n':=10) kr dd,Hld.un ?_⟩⟩))
 refine dt (sp 109 [z1,z6,z7,z10,z18,z3,z4,(34,.tup [.agg [sw 8 v7.1.Words,.sref 9 [] 0 (List.length v7.1.Guests) 17],bb v7.2]),z19,(36,ii x_aG),(37,.agg (C_45 x_aI)),(38,.agg (C_45 v6)),(39,.tup [.agg [sw 8 v7.1.Words,.sref 9 [] 0 (List.length v7.1.Guests) 17],bb v7.2]),(40,.agg [sw 8 v7.1.Words,.sref 9 [] 0 (List.length v7.1.Guests) 17]),(41,bb v7.2)]) [(10,some ⟨41,[.nil,.nil]⟩),z26,z27,z12,z2,z17,z22,z21,z23] 11 ?_
 let q9:Root:=⟨41,[sw 8 v7.1.Words,.sref 9 [] 0 (List.length v7.1.Guests) 17]⟩; let z28:=(10,some q9)
 refine yt (sp 109 [z1,z6,z7,z10,z18,z3,z4,z24]) [z12,z2,z17,z22,z21,z23,z27,z26,z28] 11 (Aw.seq (Aw.sreg [1,3,5,8,9,10,11,12,50] [0,1,4,5,6,7,8,9,10] (yj 2  (sp 109 [z1,z6,z7,z10,z18,z3,z4,z24,(42,.agg [sw 8 v7.1.Words,.sref 9 [] 0 (List.length v7.1.Guests) 17]),(43,.agg (B_41 v4.1))]) [z12,z2,z17,z22,z21,z23,z27,z26,z28] 11 ?_)))
 obtain ⟨v8,hv8,hh⟩:=bind_some hh
 refine ys (.call 43 [(.t 42),(.t 43)]) (some 44) (op_call (r:=bb v8) (v:=bb v8) (Hr:=[]) (n':=11) (laws_eqHost_fn hv8) (clz_v (vs:=[.agg [sw 8 v7.1.Words,.sref 9 [] 0 (List.length v7.1.Guests) 17],.agg (B_41 v4.1)]) kr (clz_c (clo_agg (clos_c (clo_own (c:=(eI .i64)) (xs:=v7.1.Words) (e:=3) eqn len_eI no_eI cl_eI kr) (clos_c (clo_flr (B:=B_55) (xs:=v7.1.Guests) (e:=55) oc_O_55 len_O_55 eqn kr) clos_n))) (clz_c (clo_same (clean_agg (cl_B_41 _))) clz_n))) rfl rfl kr ?_)
 refine yu 2 [(44,bb v8),(45,bb (!v8)),(46,bb (!v8))] [z12,z2,z17,z22,z21,z23,z27,z26,z28] 11 ?_
 rcases cond_some hh with ⟨hb,hh⟩ | ⟨hb,hh⟩
 · exact yb 45 hb (yb 46 hb (yt (sp 109 [z1,z6,z7,z10,z18,z3,z4,z24,(50,bb true)]) [z12,z2,z17,z22,z21,z23,z27,z26,z28] 11 (cT rfl (sy [6] [] (sp 109 [z9]) [] 11 (Aw.ret (then_r (gvbs hh)))))))
 refine yb 45 hb (yb 46 hb (yt (sp 109 [z1,z6,z7,z10,z18,z3,z4,z24,z25]) [z12,z2,z17,z22,z21,z23,z27,z26,z28] 11 ?_))
 rcases cond_some hh with ⟨hb,hh⟩ | ⟨hb,hh⟩
 · exact cT hb (sy [6] [] (sp 109 [z9]) [] 11 (Aw.ret (then_r (gvbs hh))))
 refine cF hb (Aw.xskip (fun _ _ _ hq=>then_m hq) (Aw.seq (Aw.sregd [1,3,5,8,9,10,11,12,55] [0,1,4,5,6,7,8,9,10] [] kr (dj 2 (sp 109 [z1,z6,z7,z10,z18,z3,z4,z24,z25,z20,z8]) [z12,z2,z17,z22,z21,z23,z27,z26,z28] 11 ?_))))
 obtain ⟨v9,hv9,hh⟩:=bind_some hh
 let q10:Root:=(rO55 v9.Guests); let q11:Root:=(rI_3 v9.Words)
 refine ds (.call 41 [(.t 52)]) (some 53) (ydo_n rfl (op_call (r:=.agg [.own 3 1 (List.length v9.Words) (fl (eI .i64) v9.Words),.own 55 17 (List.length v9.Guests) (fl O_55 v9.Guests)]) (v:=.agg [sw 11 v9.Words,.sref 12 [] 0 (List.length v9.Guests) 17]) (Hr:=[(12,some q10),(11,some q11)]) (n':=13) (laws_toHost_fn hv9) (clz_v (vs:=[.agg [bo (eI .i64) x_aH.Words,bo B_157 x_aH.Guests]]) kr (clz_c (clo_agg cz) clz_n)) nrr nrr kr ⟨⟨agr_name (n:=11) (n0:=11) (r:=.agg [.own 3 1 (List.length v9.Words) (fl (eI .i64) v9.Words),.own 55 17 (List.length v9.Guests) (fl O_55 v9.Guests)]) (v:=.agg [sw 11 v9.Words,.sref 12 [] 0 (List.length v9.Guests) 17]) (Hr:=[(12,some q10),(11,some q11)]) (n':=13) kr dd,Hld.un ?_⟩⟩))
 refine dt (sp 109 [z1,z6,z7,z10,z18,z3,z4,z24,z25,z20,z8,(53,.agg [sw 11 v9.Words,.sref 12 [] 0 (List.length v9.Guests) 17])]) [(12,some q10),(11,some q11),z12,z2,z17,z22,z21,z23,z27,z26,z28] 13 ?_
 obtain ⟨v10,hv10,hh⟩:=bind_some hh
 refine ys (.call 43 [(.t 51),(.t 53)]) (some 54) (op_call (r:=bb v10) (v:=bb v10) (Hr:=[]) (n':=13) (laws_eqHost_fn hv10) (clz_v (vs:=[.agg [sw 5 v5.Words,.sref 6 [] 0 (List.length v5.Guests) 17],.agg [sw 11 v9.Words,.sref 12 [] 0 (List.length v9.Guests) 17]]) kr (clz_c (clo_agg (clos_c (clo_own (c:=(eI .i64)) (xs:=v5.Words) (e:=3) eqn len_eI no_eI cl_eI kr) (clos_c (clo_flr (B:=B_55) (xs:=v5.Guests) (e:=55) oc_O_55 len_O_55 eqn kr) clos_n))) (clz_c (clo_agg (clos_c (clo_own (c:=(eI .i64)) (xs:=v9.Words) (e:=3) eqn len_eI no_eI cl_eI kr) (clos_c (clo_flr (B:=B_55) (xs:=v9.Guests) (e:=55) oc_O_55 len_O_55 eqn kr) clos_n))) clz_n))) rfl rfl kr ?_)
 refine yt (sp 109 [z1,z6,z7,z10,z18,z3,z4,z24,(55,bb (!v10))]) [z12,z2,z17,z22,z21,z23,z27,z26,z28] 13 ?_
 rcases cond_some hh with ⟨hb,hh⟩ | ⟨hb,hh⟩
 · exact cT hb (sy [6] [] (sp 109 [z9]) [] 13 (Aw.ret (then_r (gvbs hh))))
 refine cF hb (Aw.xskip (fun _ _ _ hq=>then_m hq) (sy [1,3,5,8,9,10,11,12,13] [0,1,4,5,6,7,8,9,10] (sp 109 [z1,z6,z7,z10,z18,z3,z4,z24,(13,ii 1)]) [z12,z2,z17,z22,z21,z23,z27,z26,z28] 13 (Aw.sreg [1,3,5,8,9,11,12,13] [0,1,4,8,9,10] (yu 2 [(56,.agg [sw 5 v5.Words,.sref 6 [] 0 (List.length v5.Guests) 17]),(57,ii 1)] [z12,z2,z17,z22,z21,z23,z27,z26,z28] 13 ?_))))
 obtain ⟨v11,hv11,hh⟩:=bind_some hh
 obtain ⟨hg3,hh⟩:=grd_some hh
 obtain ⟨hg4,hh⟩:=grd_some hh
 let q12:Root:=(rI_3 v11.1)
 refine ys (.call 45 [(.t 56),(.t 57)]) (some 58) (cf (ii v11.2.2) [(5,some q12),(6,some (rO55 v11.2.1))] 13 [5,6] (laws_markHost_fn hv11) [.agg [sw 5 v5.Words,.sref 6 [] 0 (List.length v5.Guests) 17],ii 1] rz (hn nr_O_55 (hn nr_eI hs_nil)) ren_i (hn nr_eI (hn nr_O_55 hs_nil)) ?_)
 refine yt (sp 109 [z1,z6,z7,z10,z18,z4,z24,(13,ii v11.2.2)]) [z12,z2,z17,z27,z26,z28] 13 (Aw.seq (Aw.sreg [1,3,5,8,9,11,71] [0,1,4,8,9,10] (yj 3  (sp 109 [z1,z6,z7,z10,z18,z4,z24,(13,ii v11.2.2),(59,ii v11.2.2),(60,bb (decide (v11.2.2<(0:Int)))),(61,bb (decide (v11.2.2<(0:Int))))]) [z12,z2,z17,z27,z26,z28] 13 ?_)))
 rcases cond_some hh with ⟨hb,hh⟩ | ⟨hb,hh⟩
 · exact yb 60 hb (yb 61 hb (yt (sp 109 [z1,z6,z7,z10,z18,z4,(71,bb true)]) [z12,z2,z17,z27,z26,z28] 13 (cT rfl (sy [6] [] (sp 109 [z9]) [] 13 (Aw.ret (then_r (gvbs hh)))))))
 refine yb 60 hb (yb 61 hb (yu 2 [(60,bb false),(61,bb false),(62,.agg [sw 8 v7.1.Words,.sref 9 [] 0 (List.length v7.1.Guests) 17]),(63,.agg (B_41 v4.1))] [z12,z2,z17,z27,z26,z28] 13 ?_))
 obtain ⟨v12,hv12,hh⟩:=bind_some hh
 refine yg (.call 43 [(.t 62),(.t 63)]) (some 64) 61 false (op_call (r:=bb v12) (v:=bb v12) (Hr:=[]) (n':=13) (laws_eqHost_fn hv12) (clz_v (vs:=[.agg [sw 8 v7.1.Words,.sref 9 [] 0 (List.length v7.1.Guests) 17],.agg (B_41 v4.1)]) kr (clz_c (clo_agg (clos_c (clo_own (c:=(eI .i64)) (xs:=v7.1.Words) (e:=3) eqn len_eI no_eI cl_eI kr) (clos_c (clo_flr (B:=B_55) (xs:=v7.1.Guests) (e:=55) oc_O_55 len_O_55 eqn kr) clos_n))) (clz_c (clo_same (clean_agg (cl_B_41 _))) clz_n))) rfl rfl kr ?_)
 refine yu 3 [(64,bb v12),(65,bb (!v12)),(66,bb (!v12)),(67,bb (!v12))] [z12,z2,z17,z27,z26,z28] 13 ?_
 rcases cond_some hh with ⟨hb,hh⟩ | ⟨hb,hh⟩
 · exact yb 65 hb (yb 66 hb (yb 67 hb (yt (sp 109 [z1,z6,z7,z10,z18,z4,(71,bb true)]) [z12,z2,z17,z27,z26,z28] 13 (cT rfl (sy [6] [] (sp 109 [z9]) [] 13 (Aw.ret (then_r (gvbs hh))))))))
 refine yb 65 hb (yb 66 hb (yb 67 hb (yt (sp 109 [z1,z6,z7,z10,z18,z4,(71,bb (!(v7.2 == v4.2)))]) [z12,z2,z17,z27,z26,z28] 13 ?_)))
 rcases cond_some hh with ⟨hb,hh⟩ | ⟨hb,hh⟩
 · exact cT hb (sy [6] [] (sp 109 [z9]) [] 13 (Aw.ret (then_r (gvbs hh))))
 refine cF hb (Aw.xskip (fun _ _ _ hq=>then_m hq) (sy [1,3,5,8,9,11,14] [0,1,4,8,9,10] (sp 109 [z1,z6,z7,z10,z18,z4,(14,ii 1)]) [z12,z2,z17,z27,z26,z28] 13 (Aw.sreg [1,3,5,8,9,11,14] [0,1,4,8,9,10] (yu 2 [(72,.agg [sw 8 v7.1.Words,.sref 9 [] 0 (List.length v7.1.Guests) 17]),(73,ii 1)] [z12,z2,z17,z27,z26,z28] 13 ?_))))
 obtain ⟨v13,hv13,hh⟩:=bind_some hh
 let z29:=(14,ii v13.2.2); let z30:EH:=(9,some (rO55 v13.2.1))
 obtain ⟨hg7,hh⟩:=grd_some hh
 obtain ⟨hg8,hh⟩:=grd_some hh
 let q13:Root:=(rI_3 v13.1); let z31:=(8,some q13)
 refine ys (.call 45 [(.t 72),(.t 73)]) (some 74) (cf (ii v13.2.2) [z31,z30] 13 [8,9] (laws_markHost_fn hv13) [.agg [sw 8 v7.1.Words,.sref 9 [] 0 (List.length v7.1.Guests) 17],ii 1] rz (hn nr_O_55 (hn nr_eI hs_nil)) ren_i (hn nr_eI (hn nr_O_55 hs_nil)) ?_)
 refine yt (sp 109 [z1,z6,z7,z10,z18,z4,z29]) [z12,z2,z17,z31,z30,z28] 13 (sy [1,3,5,8,9,11,14,15] [0,1,4,8,9,10] (sp 109 [z1,z6,z7,z10,z18,z4,z29,(15,ii 1)]) [z12,z2,z17,z31,z30,z28] 13 (Aw.sreg [1,3,5,8,9,11,14,15] [0,1,4,8,9,10] (yu 2 [(75,.agg [sw 8 v7.1.Words,.sref 9 [] 0 (List.length v7.1.Guests) 17]),(76,ii 1)] [z12,z2,z17,z31,z30,z28] 13 ?_)))
 obtain ⟨v14,hv14,hh⟩:=bind_some hh
 let z32:=(82,bb (!decide (v14=v13.2.2)))
 refine ys (.call 46 [(.t 75),(.t 76)]) (some 77) (op_call (r:=ii v14) (v:=ii v14) (Hr:=[]) (n':=13) (laws_heldHost_fn hv14) (clz_v (vs:=[.agg [sw 8 v7.1.Words,.sref 9 [] 0 (List.length v7.1.Guests) 17],ii 1]) kr (clz_c (clo_agg (clos_c (clo_own (c:=(eI .i64)) (xs:=v13.1) (e:=3) eqn len_eI no_eI cl_eI kr) (clos_c (clo_flr (B:=B_55) (xs:=v13.2.1) (e:=55) oc_O_55 len_O_55 eqn kr) clos_n))) (cz1 clz_n))) rfl rfl kr ?_)
 refine yt (sp 109 [z1,z6,z7,z10,z18,z4,z29,(15,ii v14)]) [z12,z2,z17,z31,z30,z28] 13 (Aw.seq (sy [1,3,5,8,9,11,14,15,79] [0,1,4,8,9,10] (sp 109 [z1,z6,z7,z10,z18,z4,z29,(15,ii v14),(79,bb (decide (v14<(0:Int))))]) [z12,z2,z17,z31,z30,z28] 13 ?_))
 rcases cond_some hh with ⟨hb,hh⟩ | ⟨hb,hh⟩
 · exact cT hb (sy [6] [] (sp 109 [z9]) [] 13 (Aw.ret (then_r (gvbs hh))))
 refine cF hb (Aw.xskip (fun _ _ _ hq=>then_m hq) (Aw.seq (sy [1,3,5,8,9,11,14,82] [0,1,4,8,9,10] (sp 109 [z1,z6,z7,z10,z18,z4,z29,z32]) [z12,z2,z17,z31,z30,z28] 13 ?_)))
 rcases cond_some hh with ⟨hb,hh⟩ | ⟨hb,hh⟩
 · exact cT hb (sy [6] [] (sp 109 [z9]) [] 13 (Aw.ret (then_r (gvbs hh))))
 refine cF hb (Aw.xskip (fun _ _ _ hq=>then_m hq) (Aw.sregd [8,9,11,14,16,17] [4,8,9,10,15,16,17] [] kr (dj 1 (sp 109 [z1,z6,z7,z10,z18,z4,z29,z32,z11]) [z12,z2,z17,z31,z30,z28] 13 ?_)))
 obtain ⟨v15,hv15,hh⟩:=bind_some hh
 let z33:EV:=(85,.agg [sw 13 v15.Words,.sref 14 [] 0 (List.length v15.Guests) 17]); let q14:Root:=(rO55 v15.Guests); let z34:=(14,some q14); let q15:Root:=(rI_3 v15.Words); let z35:=(13,some q15)
 refine ds (.call 41 [(.t 84)]) (some 85) (ydo_n rfl (op_call (r:=.agg [.own 3 1 (List.length v15.Words) (fl (eI .i64) v15.Words),.own 55 17 (List.length v15.Guests) (fl O_55 v15.Guests)]) (v:=.agg [sw 13 v15.Words,.sref 14 [] 0 (List.length v15.Guests) 17]) (Hr:=[z34,z35]) (n':=15) (laws_toHost_fn hv15) (clz_v (vs:=[.agg [bo (eI .i64) x_aH.Words,bo B_157 x_aH.Guests]]) kr (clz_c (clo_agg cz) clz_n)) nrr nrr kr ⟨⟨agr_name (n:=13) (n0:=13) (r:=.agg [.own 3 1 (List.length v15.Words) (fl (eI .i64) v15.Words),.own 55 17 (List.length v15.Guests) (fl O_55 v15.Guests)]) (v:=.agg [sw 13 v15.Words,.sref 14 [] 0 (List.length v15.Guests) 17]) (Hr:=[z34,z35]) (n':=15) kr dd,Hld.un ?_⟩⟩))
 refine dj 2 (sp 109 [z1,z6,z7,z10,z18,z4,z29,z32,z11,z33,(86,ii x_aG),(87,.agg (C_45 x_aI))]) [z34,z35,z12,z2,z17,z31,z30,z28] 15 ?_
 obtain ⟨v16,hv16,hh⟩:=bind_some hh
 refine ds (.call 44 [(.t 87)]) (some 88) (ydo_n rfl (op_call (r:=.agg (C_45 v16)) (v:=.agg (C_45 v16)) (Hr:=[]) (n':=15) (laws_toIns_fn hv16) (clz_v (vs:=[.agg (C_45 x_aI)]) kr (cz1 clz_n)) rfl rfl kr ⟨⟨agr_name (n:=15) (n0:=13) (r:=.agg (C_45 v16)) (v:=.agg (C_45 v16)) (Hr:=[]) (n':=15) kr dd,Hld.un ?_⟩⟩))
 obtain ⟨v17,hv17,hh⟩:=bind_some hh
 let q16:Root:=(rO55 v17.1.Guests); let z36:=(16,some q16); let q17:Root:=(rI_3 v17.1.Words); let z37:=(15,some q17)
 refine ds (.call 29 [(.t 85),(.t 86),(.t 88)]) (some 89) (ydo_n rfl (op_call (r:=.tup [.agg [.own 3 1 (List.length v17.1.Words) (fl (eI .i64) v17.1.Words),.own 55 17 (List.length v17.1.Guests) (fl O_55 v17.1.Guests)],bb v17.2]) (v:=.tup [.agg [sw 15 v17.1.Words,.sref 16 [] 0 (List.length v17.1.Guests) 17],bb v17.2]) (Hr:=[z36,z37]) (n':=17) (impl_HostEmulate_fn hv17) (clz_v (vs:=[.agg [sw 13 v15.Words,.sref 14 [] 0 (List.length v15.Guests) 17],ii x_aG,.agg (C_45 v16)]) kr (clz_c (clo_agg (clos_c (clo_own (c:=(eI .i64)) (xs:=v15.Words) (e:=3) eqn len_eI no_eI cl_eI kr) (clos_c (clo_flr (B:=B_55) (xs:=v15.Guests) (e:=55) oc_O_55 len_O_55 eqn kr) clos_n))) (cz1 (cz1 clz_n)))) nrr nrr kr ⟨⟨agr_name (n:=15) (n0:=13) (r:=.tup [.agg [.own 3 1 (List.length v17.1.Words) (fl (eI .i64) v17.1.Words),.own 55 17 (List.length v17.1.Guests) (fl O_55 v17.1.Guests)],bb v17.2]) (v:=.tup [.agg [sw 15 v17.1.Words,.sref 16 [] 0 (List.length v17.1.Guests) 17],bb v17.2]) (Hr:=[z36,z37]) (n':=17) kr dd,Hld.un ?_⟩⟩))
 refine dt (sp 109 [z1,z6,z7,z10,z18,z4,z29,(16,pp 17),z32,(83,.tup [.agg [sw 15 v17.1.Words,.sref 16 [] 0 (List.length v17.1.Guests) 17],bb v17.2]),z11,z33,(86,ii x_aG),(87,.agg (C_45 x_aI)),(88,.agg (C_45 v16)),(89,.tup [.agg [sw 15 v17.1.Words,.sref 16 [] 0 (List.length v17.1.Guests) 17],bb v17.2]),(90,.agg [sw 15 v17.1.Words,.sref 16 [] 0 (List.length v17.1.Guests) 17]),(91,bb v17.2)]) [(17,some ⟨41,[.nil,.nil]⟩),z36,z37,z34,z35,z12,z2,z17,z31,z30,z28] 18 ?_
 let q18:Root:=⟨41,[sw 15 v17.1.Words,.sref 16 [] 0 (List.length v17.1.Guests) 17]⟩
 refine yt (sp 109 [z10,z18,z4,z29,(16,pp 17),(17,bb v17.2)]) [z17,z31,z30,z28,z37,z36,(17,some q18)] 18 (Aw.seq (Aw.sreg [11,14,100] [8,9,10] (yj 2  (sp 109 [z10,z18,z4,z29,(16,pp 17),(17,bb v17.2),(92,.agg [sw 15 v17.1.Words,.sref 16 [] 0 (List.length v17.1.Guests) 17]),(93,.agg (B_41 v4.1))]) [z17,z31,z30,z28,z37,z36,(17,some q18)] 18 ?_)))
 obtain ⟨v18,hv18,hh⟩:=bind_some hh
 refine ys (.call 43 [(.t 92),(.t 93)]) (some 94) (op_call (r:=bb v18) (v:=bb v18) (Hr:=[]) (n':=18) (laws_eqHost_fn hv18) (clz_v (vs:=[.agg [sw 15 v17.1.Words,.sref 16 [] 0 (List.length v17.1.Guests) 17],.agg (B_41 v4.1)]) kr (clz_c (clo_agg (clos_c (clo_own (c:=(eI .i64)) (xs:=v17.1.Words) (e:=3) eqn len_eI no_eI cl_eI kr) (clos_c (clo_flr (B:=B_55) (xs:=v17.1.Guests) (e:=55) oc_O_55 len_O_55 eqn kr) clos_n))) (clz_c (clo_same (clean_agg (cl_B_41 _))) clz_n))) rfl rfl kr ?_)
 refine yu 2 [(94,bb v18),(95,bb (!v18)),(96,bb (!v18))] [z17,z31,z30,z28,z37,z36,(17,some q18)] 18 ?_
 rcases cond_some hh with ⟨hb,hh⟩ | ⟨hb,hh⟩
 · exact yb 95 hb (yb 96 hb (yt (sp 109 [z4,z29,(100,bb true)]) [z31,z30,z28] 18 (cT rfl (sy [6] [] (sp 109 [z9]) [] 18 (Aw.ret (then_r (gvbs hh)))))))
 refine yb 95 hb (yb 96 hb (yt (sp 109 [z4,z29,(100,bb (!(v17.2 == v4.2)))]) [z31,z30,z28] 18 ?_))
 rcases cond_some hh with ⟨hb,hh⟩ | ⟨hb,hh⟩
 · exact cT hb (sy [6] [] (sp 109 [z9]) [] 18 (Aw.ret (then_r (gvbs hh))))
 refine cF hb (Aw.xskip (fun _ _ _ hq=>then_m hq) (sy [11,14,15] [8,9,10] (sp 109 [z4,z29,(15,ii 1)]) [z31,z30,z28] 18 (Aw.sreg [14,15] [] (yu 2 [(101,.agg [sw 8 v7.1.Words,.sref 9 [] 0 (List.length v7.1.Guests) 17]),(102,ii 1)] [z31,z30,z28] 18 ?_))))
 obtain ⟨v19,hv19,hh⟩:=bind_some hh
 refine ys (.call 46 [(.t 101),(.t 102)]) (some 103) (op_call (r:=ii v19) (v:=ii v19) (Hr:=[]) (n':=18) (laws_heldHost_fn hv19) (clz_v (vs:=[.agg [sw 8 v7.1.Words,.sref 9 [] 0 (List.length v7.1.Guests) 17],ii 1]) kr (clz_c (clo_agg (clos_c (clo_own (c:=(eI .i64)) (xs:=v13.1) (e:=3) eqn len_eI no_eI cl_eI kr) (clos_c (clo_flr (B:=B_55) (xs:=v13.2.1) (e:=55) oc_O_55 len_O_55 eqn kr) clos_n))) (cz1 clz_n))) rfl rfl kr ?_)
 refine yt (sp 109 [z29,(15,ii v19)]) [] 18 (Aw.seq (sy [14,15,105] [] (sp 109 [z29,(15,ii v19),(105,bb (decide (v19<(0:Int))))]) [] 18 ?_))
 rcases cond_some hh with ⟨hb,hh⟩ | ⟨hb,hh⟩
 · exact cT hb (sy [6] [] (sp 109 [z9]) [] 18 (Aw.ret (then_r (gvbs hh))))
 refine cF hb (Aw.xskip (fun _ _ _ hq=>then_m hq) (Aw.seq (sy [108] [] (sp 109 [(108,bb (!decide (v19=v13.2.2)))]) [] 18 ?_)))
 rcases cond_some hh with ⟨hb,hh⟩ | ⟨hb,hh⟩
 · exact cT hb (sy [6] [] (sp 109 [z9]) [] 18 (Aw.ret (then_r (gvbs hh))))
 exact cF hb (Aw.xskip (fun _ _ _ hq=>then_m hq) (sy [6] [] (sp 109 [(6,bb true)]) [] 18 (Aw.ret (gvbs hh))))
end Go.Proofs.Ytbanbjdcgdmkaaa
