/- Plain functions of the program, and that it hands back what they say. Made by program. -/
import Derived.Test.YtlikfpmbcdlnjaaWT
import Derived.Test.YtlikfpmbcdlnjaaProg
import Derived.Test.YtlikfpmbcdlnjaaWHB1
import Derived.Test.YtlikfpmbcdlnjaaWHM1
import Derived.Test.YtlikfpmbcdlnjaaWHT1
import Derived.Test.YtlikfpmbcdlnjaaWHX1
namespace Go.Proofs.Ytlikfpmbcdlnjaa
open Go.RowKit
set_option maxRecDepth 100000
set_option linter.all false
set_option maxHeartbeats 0
def Lf8_r0:List LOper:=[oX 2 65 0,oX 3 68 1,oF 4]
def Lf8_r1:List LOper:=[oN 5 1048576]
def Lf8_r2:List LOper:=[oL 20 2 2,om 21 5,oK 22 39 [20,21],om 5 22]
def Lf8_r3:List LOper:=[om 23 5,ob 24 .lss 23 0]
def Lf8_r4:List LOper:=[oT 4]
def Lf8_r5:List LOper:=[oL 25 16 3,om 26 5,oK 27 40 [25,26],om 5 27]
def Lf8_r6:List LOper:=[om 28 5,ob 29 .lss 28 0]
def Lf8_r7:List LOper:=[oT 4]
def Lf8_r8:List LOper:=[oL 31 2 2,oK 32 41 [31],oL 33 16 3,oK 34 42 [33],oK 35 19 [32,34],om 30 35,oE 36 30 0,oE 37 30 1,oE 38 30 2,oo 6 (.fresh 26 [.nil,.nil])]
def Lf8_r8t:List LOper:=[oS 2 6 36,om 7 37,om 8 38]
def Lf8_r10:List LOper:=[oL 39 2 2,oK 40 41 [39],oo 9 (.fresh 26 [.nil,.nil]),oS 2 9 40]
def Lf8_r11:List LOper:=[oL 41 16 3,oK 42 42 [41],oo 10 (.fresh 30 zc1),oS 16 10 42]
def Lf8_r12:List LOper:=[oL 44 2 9,oL 45 16 10,oK 46 18 [44,45],om 43 46,oE 47 43 0,oE 48 43 1,oE 49 43 2,oo 11 (.fresh 26 [.nil,.nil]),oS 2 11 47,om 12 48,om 13 49]
def Lf8_r13:List LOper:=[oL 50 2 11,oL 51 2 6,oK 52 43 [50,51],oU 53 52,om 54 53,og 55 (.mv (.t 12)) 54 false,og 56 (.mv (.t 7)) 54 false,og 57 (.bin .neq (.t 55) (.t 56)) 54 false,oQ 58 54 57,om 59 58,og 60 (.mv (.t 13)) 59 false,og 61 (.mv (.t 8)) 59 false,og 62 (.binb true (.t 60) (.t 61)) 59 false,oQ 63 59 62]
def Lf8_r14:List LOper:=[oF 4]
def Lf8_r15:List LOper:=[oL 64 2 9,oL 65 2 2,oK 66 41 [65]]
def Lf8_r15t:List LOper:=[oK 67 43 [64,66],oU 68 67]
def Lf8_r17:List LOper:=[oF 4]
def Lf8_r18:List LOper:=[oL 69 16 10,oL 70 16 3,oK 71 42 [70]]
def Lf8_r18t:List LOper:=[oK 72 44 [69,71],oU 73 72]
def Lf8_r20:List LOper:=[oF 4]
def Lf8_r21:List LOper:=[oN 14 1]
def Lf8_r22:List LOper:=[oL 74 2 9,om 75 14,oK 76 45 [74,75],om 14 76]
def Lf8_r23:List LOper:=[oL 77 16 10,om 78 14,oK 79 46 [77,78],om 14 79]
def Lf8_r24:List LOper:=[om 80 14,ob 81 .lss 80 0,om 82 81,og 83 (.load true 2 (.t 11)) 82 false,og 84 (.load true 2 (.t 6)) 82 false,og 85 (.call 43 [(.t 83),(.t 84)]) 82 false,og 86 (.un .not (.t 85)) 82 false,oQ 87 82 86,om 88 87,og 89 (.mv (.t 12)) 88 false,og 90 (.mv (.t 7)) 88 false,og 91 (.bin .neq (.t 89) (.t 90)) 88 false,oQ 92 88 91,om 93 92,og 94 (.mv (.t 13)) 93 false,og 95 (.mv (.t 8)) 93 false,og 96 (.binb true (.t 94) (.t 95)) 93 false,oQ 97 93 96]
def Lf8_r25:List LOper:=[oF 4]
def Lf8_r26:List LOper:=[oN 15 1]
def Lf8_r27:List LOper:=[oL 98 2 11,om 99 15,oK 100 45 [98,99],om 15 100]
def Lf8_r28:List LOper:=[oN 16 1]
def Lf8_r29:List LOper:=[oL 101 2 11,om 102 16,oK 103 47 [101,102],om 16 103]
def Lf8_r30:List LOper:=[om 104 16,ob 105 .lss 104 0]
def Lf8_r31:List LOper:=[oF 4]
def Lf8_r32:List LOper:=[om 106 16,om 107 15,oB 108 .neq 106 107]
def Lf8_r33:List LOper:=[oF 4]
def Lf8_r34:List LOper:=[oL 110 2 2,oK 111 41 [110],oL 112 16 3,oK 113 42 [112],oK 114 18 [111,113],om 109 114,oE 115 109 0,oE 116 109 1,oE 117 109 2,oo 17 (.fresh 26 [.nil,.nil])]
def Lf8_r34t:List LOper:=[oS 2 17 115,om 18 116,om 19 117]
def Lf8_r36:List LOper:=[oL 118 2 17,oL 119 2 6,oK 120 43 [118,119],oU 121 120,om 122 121,og 123 (.mv (.t 18)) 122 false,og 124 (.mv (.t 7)) 122 false,og 125 (.bin .neq (.t 123) (.t 124)) 122 false,oQ 126 122 125,om 127 126,og 128 (.mv (.t 19)) 127 false,og 129 (.mv (.t 8)) 127 false,og 130 (.binb true (.t 128) (.t 129)) 127 false,oQ 131 127 130]
def Lf8_r37:List LOper:=[oF 4]
def Lf8_r38:List LOper:=[oN 16 1]
def Lf8_r39:List LOper:=[oL 132 2 11,om 133 16,oK 134 47 [132,133],om 16 134]
def Lf8_r40:List LOper:=[om 135 16,ob 136 .lss 135 0]
def Lf8_r41:List LOper:=[oF 4]
def Lf8_r42:List LOper:=[om 137 16,om 138 15,oB 139 .neq 137 138]
def Lf8_r43:List LOper:=[oF 4]
def Lf8_r44:List LOper:=[oT 4]
def Lf8:LFun:=⟨140,[(.tmp 4)],(.seq (.reg false Lf8_r0) (.seq (.reg false Lf8_r1) (.seq (.reg false Lf8_r2) (.seq (.seq (.reg false Lf8_r3) (.cond (.t 24) (.seq (.reg false Lf8_r4) .ret) .skip)) (.seq (.reg false Lf8_r5) (.seq (.seq (.reg false Lf8_r6) (.cond (.t 29) (.seq (.reg false Lf8_r7) .ret) .skip)) (.seq (.regd Lf8_r8 Lf8_r8t) (.seq (.reg false Lf8_r10) (.seq (.reg false Lf8_r11) (.seq (.reg false Lf8_r12) (.seq (.seq (.reg false Lf8_r13) (.cond (.t 63) (.seq (.reg false Lf8_r14) .ret) .skip)) (.seq (.seq (.regd Lf8_r15 Lf8_r15t) (.cond (.t 68) (.seq (.reg false Lf8_r17) .ret) .skip)) (.seq (.seq (.regd Lf8_r18 Lf8_r18t) (.cond (.t 73) (.seq (.reg false Lf8_r20) .ret) .skip)) (.seq (.reg false Lf8_r21) (.seq (.reg false Lf8_r22) (.seq (.reg false Lf8_r23) (.seq (.seq (.reg false Lf8_r24) (.cond (.t 97) (.seq (.reg false Lf8_r25) .ret) .skip)) (.seq (.reg false Lf8_r26) (.seq (.reg false Lf8_r27) (.seq (.reg false Lf8_r28) (.seq (.reg false Lf8_r29) (.seq (.seq (.reg false Lf8_r30) (.cond (.t 105) (.seq (.reg false Lf8_r31) .ret) .skip)) (.seq (.seq (.reg false Lf8_r32) (.cond (.t 108) (.seq (.reg false Lf8_r33) .ret) .skip)) (.seq (.regd Lf8_r34 Lf8_r34t) (.seq (.seq (.reg false Lf8_r36) (.cond (.t 131) (.seq (.reg false Lf8_r37) .ret) .skip)) (.seq (.reg false Lf8_r38) (.seq (.reg false Lf8_r39) (.seq (.seq (.reg false Lf8_r40) (.cond (.t 136) (.seq (.reg false Lf8_r41) .ret) .skip)) (.seq (.seq (.reg false Lf8_r42) (.cond (.t 139) (.seq (.reg false Lf8_r43) .ret) .skip)) (.seq (.reg false Lf8_r44) .ret))))))))))))))))))))))))))))))⟩
theorem low_laws_FnExactHostBoot:lowFun Go.Proofs.Try.prog 8=some Lf8:=by kernel_rfl
noncomputable def F_laws_FnExactHostBoot (x_aH:DHost) (x_aB:DBare):Option Bool :=
 Option.bind (F_laws_szHost x_aH (1048576:Int)) fun v1 =>
 cond (decide (v1<(0:Int)))
  (some true)
  (Option.bind (F_laws_szBare x_aB v1) fun v2 =>
  cond (decide (v2<(0:Int)))
   (some true)
   (Option.bind (F_laws_toHost x_aH) fun v3 =>
   Option.bind (F_laws_toBare x_aB) fun v4 =>
   Option.bind (F_spec_HostBoot v3 v4) fun v5 =>
   Option.bind (F_laws_toHost x_aH) fun v6 =>
   Option.bind (F_laws_toBare x_aB) fun v7 =>
   Option.bind (F_impl_HostBoot v6 v7) fun v8 =>
   Option.bind (F_laws_eqHost v8.1 v5.1) fun v9 =>
   cond (!v9)
    (some false)
    (cond (!decide (v8.2.1=v5.2.1))
     (some false)
     (cond (!(v8.2.2 == v5.2.2))
      (some false)
      (Option.bind (F_laws_toHost x_aH) fun v10 =>
      Option.bind (F_laws_eqHost v6 v10) fun v11 =>
      cond (!v11)
       (some false)
       (Option.bind (F_laws_toBare x_aB) fun v12 =>
       Option.bind (F_laws_eqBare v7 v12) fun v13 =>
       cond (!v13)
        (some false)
        (Option.bind (F_laws_markHost v6 (1:Int)) fun v14 =>
        grd (List.length v14.1=(List.length v6.Words)) (grd (List.length v14.2.1=(List.length v6.Guests)) (Option.bind (F_laws_markBare v7 v14.2.2) fun v15 =>
         grd (List.length v15.1=(List.length v7.C.Regs)) (grd (List.length v15.2.1=(List.length v7.Mem)) (grd (List.length v15.2.2.1=(List.length v7.In)) (grd (List.length v15.2.2.2.1=(List.length v7.Out)) (cond (decide (v15.2.2.2.2<(0:Int)))
          (some false)
          (Option.bind (F_laws_eqHost v8.1 v5.1) fun v16 =>
          cond (!v16)
           (some false)
           (cond (!decide (v8.2.1=v5.2.1))
            (some false)
            (cond (!(v8.2.2 == v5.2.2))
             (some false)
             (Option.bind (F_laws_markHost v8.1 (1:Int)) fun v17 =>
             grd (List.length v17.1=(List.length v8.1.Words)) (grd (List.length v17.2.1=(List.length v8.1.Guests)) (Option.bind (F_laws_heldHost (DHost.mk v17.1 v17.2.1) (1:Int)) fun v18 =>
              cond (decide (v18<(0:Int)))
               (some false)
               (cond (!decide (v18=v17.2.2))
                (some false)
                (Option.bind (F_laws_toHost x_aH) fun v19 =>
                Option.bind (F_laws_toBare x_aB) fun v20 =>
                Option.bind (F_impl_HostBoot v19 v20) fun v21 =>
                Option.bind (F_laws_eqHost v21.1 v5.1) fun v22 =>
                cond (!v22)
                 (some false)
                 (cond (!decide (v21.2.1=v5.2.1))
                  (some false)
                  (cond (!(v21.2.2 == v5.2.2))
                   (some false)
                   (Option.bind (F_laws_heldHost (DHost.mk v17.1 v17.2.1) (1:Int)) fun v23 =>
                   cond (decide (v23<(0:Int)))
                    (some false)
                    (cond (!decide (v23=v17.2.2))
                     (some false)
                     (some true))))))))))))))))))))))))))
theorem laws_FnExactHostBoot_fn {x_aH:DHost} {x_aB:DBare} {R_:Bool} (hh:F_laws_FnExactHostBoot x_aH x_aB=some R_):Fn Try.prog 8 [.agg [bo (eI .i64) x_aH.Words,bo B_149 x_aH.Guests],.agg (B_30 x_aB)] (.bool R_):=by
 let z1:EH:=(1,some ⟨68,(B_30 x_aB)⟩); let z2:=(10,pp 18); let z3:=(11,pp 21); let z4:EV:=(110,.agg [bo (eI .i64) x_aH.Words,bo B_149 x_aH.Guests]); let z5:=(2,pp 0); let z6:=(3,pp 1); let z7:EV:=(31,.agg [bo (eI .i64) x_aH.Words,bo B_149 x_aH.Guests]); let z8:=(4,bb false); let z9:=(6,pp 10); let z10:EV:=(65,.agg [bo (eI .i64) x_aH.Words,bo B_149 x_aH.Guests]); let z11:=(9,pp 13)
 unfold F_laws_FnExactHostBoot at hh
 refine Fn.start low_laws_FnExactHostBoot [0,1] (E:=sp 140 [(0,.agg [bo (eI .i64) x_aH.Words,bo B_149 x_aH.Guests]),(1,.agg (B_30 x_aB))]) kr (v:=bb R_) (Hr:=[]) (k:=0) kr (Aw.sreg [2,3] [0,1] ?_)
 let q1:Root:=⟨65,[bo (eI .i64) x_aH.Words,bo B_149 x_aH.Guests]⟩; let z12:=(0,some q1)
 refine yt (sp 140 [z5,z6]) [z12,z1] 2 (sy [2,3,5] [0,1] (sp 140 [z5,z6,(5,ii 1048576)]) [z12,z1] 2 (Aw.sreg [2,3,5] [0,1] (yu 2 [(20,.agg [bo (eI .i64) x_aH.Words,bo B_149 x_aH.Guests]),(21,ii 1048576)] [z12,z1] 2 ?_)))
 obtain ⟨v1,hv1,hh⟩:=bind_some hh
 let z13:=(24,bb (decide (v1<(0:Int))))
 refine ys (.call 39 [(.t 20),(.t 21)]) (some 22) (op_call (r:=ii v1) (v:=ii v1) (Hr:=[]) (n':=2) (laws_szHost_fn hv1) (clz_v (vs:=[.agg [bo (eI .i64) x_aH.Words,bo B_149 x_aH.Guests],ii 1048576]) kr (clz_c (clo_agg cz) (cz1 clz_n))) rfl rfl kr ?_)
 refine yt (sp 140 [z5,z6,(5,ii v1)]) [z12,z1] 2 (Aw.seq (sy [2,3,5,24] [0,1] (sp 140 [z5,z6,(5,ii v1),z13]) [z12,z1] 2 ?_))
 rcases cond_some hh with ⟨hb,hh⟩ | ⟨hb,hh⟩
 · exact cT hb (sy [4] [] (sp 140 [(4,bb true)]) [] 2 (Aw.ret (then_r (gvbs hh))))
 refine cF hb (Aw.xskip (fun _ _ _ hq=>then_m hq) (Aw.sreg [2,3,5] [0,1] (yj 2  (sp 140 [z5,z6,(5,ii v1),z13,(25,.agg (B_30 x_aB)),(26,ii v1)]) [z12,z1] 2 ?_)))
 obtain ⟨v2,hv2,hh⟩:=bind_some hh
 let z14:=(29,bb (decide (v2<(0:Int))))
 refine ys (.call 40 [(.t 25),(.t 26)]) (some 27) (op_call (r:=ii v2) (v:=ii v2) (Hr:=[]) (n':=2) (laws_szBare_fn hv2) (clz_v (vs:=[.agg (B_30 x_aB),ii v1]) kr (clz_c (clo_same (clean_agg (cl_B_30 _))) (cz1 clz_n))) rfl rfl kr ?_)
 refine yt (sp 140 [z5,z6,(5,ii v2)]) [z12,z1] 2 (Aw.seq (sy [2,3,29] [0,1] (sp 140 [z5,z6,z14]) [z12,z1] 2 ?_))
 rcases cond_some hh with ⟨hb,hh⟩ | ⟨hb,hh⟩
 · exact cT hb (sy [4] [] (sp 140 [(4,bb true)]) [] 2 (Aw.ret (then_r (gvbs hh))))
 refine cF hb (Aw.xskip (fun _ _ _ hq=>then_m hq) (Aw.sregd [2,3,6,7,8] [0,1,8,9,10] [] kr (dc (cs:=[]) (E':=(sp 140 [z5,z6,z14,z7])) (H':=[z12,z1]) (n':=2) (fs':=none) (pre:=(List.take 1 Lf8_r8)) (L':=(List.drop 1 Lf8_r8)) kr (fun K=>by kernel_rfl) .nil ?_)))
 obtain ⟨v3,hv3,hh⟩:=bind_some hh
 let z15:EV:=(32,.agg [sw 2 v3.Words,.sref 3 [] 0 (List.length v3.Guests) 17]); let q2:Root:=⟨53,(fl O_53 v3.Guests)⟩; let q3:Root:=⟨3,(fl (eI .i64) v3.Words)⟩
 refine ds (.call 41 [(.t 31)]) (some 32) (ydo_n rfl (op_call (r:=.agg [.own 3 1 (List.length v3.Words) (fl (eI .i64) v3.Words),.own 53 17 (List.length v3.Guests) (fl O_53 v3.Guests)]) (v:=.agg [sw 2 v3.Words,.sref 3 [] 0 (List.length v3.Guests) 17]) (Hr:=[(3,some q2),(2,some q3)]) (n':=4) (laws_toHost_fn hv3) (clz_v (vs:=[.agg [bo (eI .i64) x_aH.Words,bo B_149 x_aH.Guests]]) kr (clz_c (clo_agg cz) clz_n)) (by simp only [AV.noRef,noRefs,Bool.and_self,noRefs_fl nr_eI,noRefs_fl nr_O_53]) (by simp only [AV.noBor,noBors,Bool.and_self,noBors_fl nb_eI,noBors_fl nb_O_53]) kr ⟨⟨agr_name (n:=2) (n0:=2) (r:=.agg [.own 3 1 (List.length v3.Words) (fl (eI .i64) v3.Words),.own 53 17 (List.length v3.Guests) (fl O_53 v3.Guests)]) (v:=.agg [sw 2 v3.Words,.sref 3 [] 0 (List.length v3.Guests) 17]) (Hr:=[(3,some q2),(2,some q3)]) (n':=4) kr dd,Hld.un ?_⟩⟩))
 refine dc (cs:=[]) (E':=(sp 140 [z5,z6,z14,z7,z15,(33,.agg (B_30 x_aB))])) (H':=[(3,some q2),(2,some q3),z12,z1]) (n':=4) (fs':=none) (pre:=(List.take 1 (List.drop 2 Lf8_r8))) (L':=(List.drop 3 Lf8_r8)) kr (fun K=>by kernel_rfl) .nil ?_
 obtain ⟨v4,hv4,hh⟩:=bind_some hh
 let q4:Root:=⟨3,(fl (eI .i64) v4.Out)⟩; let q5:Root:=⟨3,(fl (eI .i64) v4.In)⟩; let q6:Root:=⟨3,(fl (eI .i64) v4.Mem)⟩; let q7:Root:=⟨3,(fl (eI .i64) v4.C.Regs)⟩
 refine ds (.call 42 [(.t 33)]) (some 34) (ydo_n rfl (op_call (r:=.agg (.own 3 1 (List.length v4.C.Regs) (fl (eI .i64) v4.C.Regs)::ru28 v4.C [.own 3 1 (List.length v4.Mem) (fl (eI .i64) v4.Mem),.own 3 1 (List.length v4.In) (fl (eI .i64) v4.In),.own 3 1 (List.length v4.Out) (fl (eI .i64) v4.Out)])) (v:=.agg (sw 4 v4.C.Regs::ru28 v4.C [sw 5 v4.Mem,sw 6 v4.In,sw 7 v4.Out])) (Hr:=[(7,some q4),(6,some q5),(5,some q6),(4,some q7)]) (n':=8) (laws_toBare_fn hv4) (clz_v (vs:=[.agg (B_30 x_aB)]) kr (clz_c (clo_same (clean_agg (cl_B_30 _))) clz_n)) (by simp only [ru28,AV.noRef,noRefs,Bool.and_self,noRefs_fl nr_eI]) (by simp only [ru28,AV.noBor,noBors,Bool.and_self,noBors_fl nb_eI]) kr ⟨⟨agr_name (n:=4) (n0:=2) (r:=.agg (.own 3 1 (List.length v4.C.Regs) (fl (eI .i64) v4.C.Regs)::ru28 v4.C [.own 3 1 (List.length v4.Mem) (fl (eI .i64) v4.Mem),.own 3 1 (List.length v4.In) (fl (eI .i64) v4.In),.own 3 1 (List.length v4.Out) (fl (eI .i64) v4.Out)])) (v:=.agg (sw 4 v4.C.Regs::ru28 v4.C [sw 5 v4.Mem,sw 6 v4.In,sw 7 v4.Out])) (Hr:=[(7,some q4),(6,some q5),(5,some q6),(4,some q7)]) (n':=8) kr dd,Hld.un ?_⟩⟩))
 obtain ⟨v5,hv5,hh⟩:=bind_some hh
 let z16:=(7,ii v5.2.1); let z17:=(8,bb v5.2.2); let q8:Root:=⟨53,(fl O_53 v5.1.Guests)⟩; let z18:=(9,some q8); let q9:Root:=⟨3,(fl (eI .i64) v5.1.Words)⟩; let z19:=(8,some q9)
 refine ds (.call 19 [(.t 32),(.t 34)]) (some 35) (ydo_n rfl (op_call (r:=.tup [.agg [.own 3 1 (List.length v5.1.Words) (fl (eI .i64) v5.1.Words),.own 53 17 (List.length v5.1.Guests) (fl O_53 v5.1.Guests)],ii v5.2.1,bb v5.2.2]) (v:=.tup [.agg [sw 8 v5.1.Words,.sref 9 [] 0 (List.length v5.1.Guests) 17],ii v5.2.1,bb v5.2.2]) (Hr:=[z18,z19]) (n':=10) (spec_HostBoot_fn hv5) (clz_v (vs:=[.agg [sw 2 v3.Words,.sref 3 [] 0 (List.length v3.Guests) 17],.agg (sw 4 v4.C.Regs::ru28 v4.C [sw 5 v4.Mem,sw 6 v4.In,sw 7 v4.Out])]) kr (clz_c (clo_agg (clos_c (clo_own (c:=(eI .i64)) (xs:=v3.Words) (e:=3) eqn len_eI no_eI cl_eI kr) (clos_c (clo_flr (B:=B_53) (xs:=v3.Guests) (e:=53) oc_O_53 len_O_53 eqn kr) clos_n))) (clz_c (clo_agg (clos_c (clo_own (c:=(eI .i64)) (xs:=v4.C.Regs) (e:=3) eqn len_eI no_eI cl_eI kr) (cs1 (cs1 (cs1 (cs1 (cs1 (cs1 (cs1 (cs1 (cs1 (cs1 (cs1 (cs1 (clos_c (clo_own (c:=(eI .i64)) (xs:=v4.Mem) (e:=3) eqn len_eI no_eI cl_eI kr) (clos_c (clo_own (c:=(eI .i64)) (xs:=v4.In) (e:=3) eqn len_eI no_eI cl_eI kr) (clos_c (clo_own (c:=(eI .i64)) (xs:=v4.Out) (e:=3) eqn len_eI no_eI cl_eI kr) clos_n))))))))))))))))) clz_n))) (by simp only [ru28,AV.noRef,noRefs,Bool.and_self,noRefs_fl nr_eI,noRefs_fl nr_O_53]) (by simp only [ru28,AV.noBor,noBors,Bool.and_self,noBors_fl nb_eI,noBors_fl nb_O_53]) kr ⟨⟨agr_name (n:=8) (n0:=2) (r:=.tup [.agg [.own 3 1 (List.length v5.1.Words) (fl (eI .i64) v5.1.Words),.own 53 17 (List.length v5.1.Guests) (fl O_53 v5.1.Guests)],ii v5.2.1,bb v5.2.2]) (v:=.tup [.agg [sw 8 v5.1.Words,.sref 9 [] 0 (List.length v5.1.Guests) 17],ii v5.2.1,bb v5.2.2]) (Hr:=[z18,z19]) (n':=10) kr dd,Hld.un ?_⟩⟩))
 refine dct (cs:=[]) (E':=(sp 140 [z5,z6,z9,z14,(30,.tup [.agg [sw 8 v5.1.Words,.sref 9 [] 0 (List.length v5.1.Guests) 17],ii v5.2.1,bb v5.2.2]),z7,z15,(33,.agg (B_30 x_aB)),(34,.agg (sw 4 v4.C.Regs::ru28 v4.C [sw 5 v4.Mem,sw 6 v4.In,sw 7 v4.Out])),(35,.tup [.agg [sw 8 v5.1.Words,.sref 9 [] 0 (List.length v5.1.Guests) 17],ii v5.2.1,bb v5.2.2]),(36,.agg [sw 8 v5.1.Words,.sref 9 [] 0 (List.length v5.1.Guests) 17]),(37,ii v5.2.1),(38,bb v5.2.2)])) (H':=[(10,some ⟨26,[.nil,.nil]⟩),z18,z19,(7,some q4),(6,some q5),(5,some q6),(4,some q7),(3,some q2),(2,some q3),z12,z1]) (n':=11) (fun K=>by kernel_rfl) .nil ?_
 let q10:Root:=⟨26,[sw 8 v5.1.Words,.sref 9 [] 0 (List.length v5.1.Guests) 17]⟩; let z20:=(10,some q10)
 refine yt (sp 140 [z5,z6,z9,z16,z17]) [z12,z1,z19,z18,z20] 11 (Aw.sreg [2,3,6,7,8,9] [0,1,8,9,10,11,12,13] (yu 1 [(39,.agg [bo (eI .i64) x_aH.Words,bo B_149 x_aH.Guests])] [z12,z1,z19,z18,z20] 11 ?_))
 obtain ⟨v6,hv6,hh⟩:=bind_some hh
 let z21:EV:=(64,.agg [sw 11 v6.Words,.sref 12 [] 0 (List.length v6.Guests) 17]); let q11:Root:=⟨53,(fl O_53 v6.Guests)⟩; let z22:=(12,some q11); let q12:Root:=⟨3,(fl (eI .i64) v6.Words)⟩; let z23:=(11,some q12)
 refine ys (.call 41 [(.t 39)]) (some 40) (op_call (r:=.agg [.own 3 1 (List.length v6.Words) (fl (eI .i64) v6.Words),.own 53 17 (List.length v6.Guests) (fl O_53 v6.Guests)]) (v:=.agg [sw 11 v6.Words,.sref 12 [] 0 (List.length v6.Guests) 17]) (Hr:=[z22,z23]) (n':=13) (laws_toHost_fn hv6) (clz_v (vs:=[.agg [bo (eI .i64) x_aH.Words,bo B_149 x_aH.Guests]]) kr (clz_c (clo_agg cz) clz_n)) (by simp only [AV.noRef,noRefs,Bool.and_self,noRefs_fl nr_eI,noRefs_fl nr_O_53]) (by simp only [AV.noBor,noBors,Bool.and_self,noBors_fl nb_eI,noBors_fl nb_O_53]) kr ?_)
 let q13:Root:=⟨26,[sw 11 v6.Words,.sref 12 [] 0 (List.length v6.Guests) 17]⟩; let z24:=(13,some q13)
 refine yt (sp 140 [z5,z6,z9,z16,z17,z11]) [z12,z1,z19,z18,z20,z23,z22,z24] 14 (Aw.sreg [2,3,6,7,8,9,10] [0,1,8,9,10,11,12,13,14,15,16,17,18] (yu 1 [(41,.agg (B_30 x_aB))] [z12,z1,z19,z18,z20,z23,z22,z24] 14 ?_))
 obtain ⟨v7,hv7,hh⟩:=bind_some hh
 let z25:EV:=(69,.agg (sw 14 v7.C.Regs::ru28 v7.C [sw 15 v7.Mem,sw 16 v7.In,sw 17 v7.Out])); let q14:Root:=⟨3,(fl (eI .i64) v7.Out)⟩; let z26:=(17,some q14); let q15:Root:=⟨3,(fl (eI .i64) v7.In)⟩; let z27:=(16,some q15); let q16:Root:=⟨3,(fl (eI .i64) v7.Mem)⟩; let z28:=(15,some q16); let q17:Root:=⟨3,(fl (eI .i64) v7.C.Regs)⟩; let z29:=(14,some q17)
 refine ys (.call 42 [(.t 41)]) (some 42) (op_call (r:=.agg (.own 3 1 (List.length v7.C.Regs) (fl (eI .i64) v7.C.Regs)::ru28 v7.C [.own 3 1 (List.length v7.Mem) (fl (eI .i64) v7.Mem),.own 3 1 (List.length v7.In) (fl (eI .i64) v7.In),.own 3 1 (List.length v7.Out) (fl (eI .i64) v7.Out)])) (v:=.agg (sw 14 v7.C.Regs::ru28 v7.C [sw 15 v7.Mem,sw 16 v7.In,sw 17 v7.Out])) (Hr:=[z26,z27,z28,z29]) (n':=18) (laws_toBare_fn hv7) (clz_v (vs:=[.agg (B_30 x_aB)]) kr (clz_c (clo_same (clean_agg (cl_B_30 _))) clz_n)) (by simp only [ru28,AV.noRef,noRefs,Bool.and_self,noRefs_fl nr_eI]) (by simp only [ru28,AV.noBor,noBors,Bool.and_self,noBors_fl nb_eI]) kr ?_)
 let q18:Root:=⟨30,(sw 14 v7.C.Regs::ru28 v7.C [sw 15 v7.Mem,sw 16 v7.In,sw 17 v7.Out])⟩; let z30:=(18,some q18)
 refine yt (sp 140 [z5,z6,z9,z16,z17,z11,z2]) [z12,z1,z19,z18,z20,z23,z22,z24,z29,z28,z27,z26,z30] 19 (Aw.sreg [2,3,6,7,8,9,10,11,12,13] [0,1,8,9,10,11,12,13,14,15,16,17,18,19,20,21] (yu 2 [(44,.agg [sw 11 v6.Words,.sref 12 [] 0 (List.length v6.Guests) 17]),(45,.agg (sw 14 v7.C.Regs::ru28 v7.C [sw 15 v7.Mem,sw 16 v7.In,sw 17 v7.Out]))] [z12,z1,z19,z18,z20,z23,z22,z24,z29,z28,z27,z26,z30] 19 ?_))
 obtain ⟨v8,hv8,hh⟩:=bind_some hh
 let z31:=(12,ii v8.2.1); let z32:=(13,bb v8.2.2); let z33:=(63,bb (!(v8.2.2 == v5.2.2))); let q19:Root:=⟨53,(fl O_53 v8.1.Guests)⟩; let z34:=(20,some q19); let q20:Root:=⟨3,(fl (eI .i64) v8.1.Words)⟩; let z35:=(19,some q20)
 refine ys (.call 18 [(.t 44),(.t 45)]) (some 46) (op_call (r:=.tup [.agg [.own 3 1 (List.length v8.1.Words) (fl (eI .i64) v8.1.Words),.own 53 17 (List.length v8.1.Guests) (fl O_53 v8.1.Guests)],ii v8.2.1,bb v8.2.2]) (v:=.tup [.agg [sw 19 v8.1.Words,.sref 20 [] 0 (List.length v8.1.Guests) 17],ii v8.2.1,bb v8.2.2]) (Hr:=[z34,z35]) (n':=21) (impl_HostBoot_fn hv8) (clz_v (vs:=[.agg [sw 11 v6.Words,.sref 12 [] 0 (List.length v6.Guests) 17],.agg (sw 14 v7.C.Regs::ru28 v7.C [sw 15 v7.Mem,sw 16 v7.In,sw 17 v7.Out])]) kr (clz_c (clo_agg (clos_c (clo_own (c:=(eI .i64)) (xs:=v6.Words) (e:=3) eqn len_eI no_eI cl_eI kr) (clos_c (clo_flr (B:=B_53) (xs:=v6.Guests) (e:=53) oc_O_53 len_O_53 eqn kr) clos_n))) (clz_c (clo_agg (clos_c (clo_own (c:=(eI .i64)) (xs:=v7.C.Regs) (e:=3) eqn len_eI no_eI cl_eI kr) (cs1 (cs1 (cs1 (cs1 (cs1 (cs1 (cs1 (cs1 (cs1 (cs1 (cs1 (cs1 (clos_c (clo_own (c:=(eI .i64)) (xs:=v7.Mem) (e:=3) eqn len_eI no_eI cl_eI kr) (clos_c (clo_own (c:=(eI .i64)) (xs:=v7.In) (e:=3) eqn len_eI no_eI cl_eI kr) (clos_c (clo_own (c:=(eI .i64)) (xs:=v7.Out) (e:=3) eqn len_eI no_eI cl_eI kr) clos_n))))))))))))))))) clz_n))) (by simp only [ru28,AV.noRef,noRefs,Bool.and_self,noRefs_fl nr_eI,noRefs_fl nr_O_53]) (by simp only [ru28,AV.noBor,noBors,Bool.and_self,noBors_fl nb_eI,noBors_fl nb_O_53]) kr ?_)
 let q21:Root:=⟨26,[sw 19 v8.1.Words,.sref 20 [] 0 (List.length v8.1.Guests) 17]⟩; let z36:=(21,some q21)
 refine yt (sp 140 [z5,z6,z9,z16,z17,z11,z2,z3,z31,z32]) [z12,z1,z19,z18,z20,z23,z22,z24,z29,z28,z27,z26,z30,z35,z34,z36] 22 (Aw.seq (Aw.sreg [2,3,6,7,8,9,10,11,12,13,63] [0,1,8,9,10,11,12,13,14,15,16,17,18,19,20,21] (yj 2  (sp 140 [z5,z6,z9,z16,z17,z11,z2,z3,z31,z32,(50,.agg [sw 19 v8.1.Words,.sref 20 [] 0 (List.length v8.1.Guests) 17]),(51,.agg [sw 8 v5.1.Words,.sref 9 [] 0 (List.length v5.1.Guests) 17])]) [z12,z1,z19,z18,z20,z23,z22,z24,z29,z28,z27,z26,z30,z35,z34,z36] 22 ?_)))
 obtain ⟨v9,hv9,hh⟩:=bind_some hh
 refine ys (.call 43 [(.t 50),(.t 51)]) (some 52) (op_call (r:=bb v9) (v:=bb v9) (Hr:=[]) (n':=22) (laws_eqHost_fn hv9) (clz_v (vs:=[.agg [sw 19 v8.1.Words,.sref 20 [] 0 (List.length v8.1.Guests) 17],.agg [sw 8 v5.1.Words,.sref 9 [] 0 (List.length v5.1.Guests) 17]]) kr (clz_c (clo_agg (clos_c (clo_own (c:=(eI .i64)) (xs:=v8.1.Words) (e:=3) eqn len_eI no_eI cl_eI kr) (clos_c (clo_flr (B:=B_53) (xs:=v8.1.Guests) (e:=53) oc_O_53 len_O_53 eqn kr) clos_n))) (clz_c (clo_agg (clos_c (clo_own (c:=(eI .i64)) (xs:=v5.1.Words) (e:=3) eqn len_eI no_eI cl_eI kr) (clos_c (clo_flr (B:=B_53) (xs:=v5.1.Guests) (e:=53) oc_O_53 len_O_53 eqn kr) clos_n))) clz_n))) rfl rfl kr ?_)
 refine yu 2 [(52,bb v9),(53,bb (!v9)),(54,bb (!v9))] [z12,z1,z19,z18,z20,z23,z22,z24,z29,z28,z27,z26,z30,z35,z34,z36] 22 ?_
 rcases cond_some hh with ⟨hb,hh⟩ | ⟨hb,hh⟩
 · exact yb 53 hb (yb 54 hb (yt (sp 140 [z5,z6,z9,z16,z17,z11,z2,z3,z31,z32,(63,bb true)]) [z12,z1,z19,z18,z20,z23,z22,z24,z29,z28,z27,z26,z30,z35,z34,z36] 22 (cT rfl (sy [4] [] (sp 140 [z8]) [] 22 (Aw.ret (then_r (gvbs hh)))))))
 refine yb 53 hb (yb 54 hb (yu 5 [(53,bb false),(54,bb false),(55,ii v8.2.1),(56,ii v5.2.1),(57,bb (!decide (v8.2.1=v5.2.1))),(58,bb (!decide (v8.2.1=v5.2.1))),(59,bb (!decide (v8.2.1=v5.2.1)))] [z12,z1,z19,z18,z20,z23,z22,z24,z29,z28,z27,z26,z30,z35,z34,z36] 22 ?_))
 rcases cond_some hh with ⟨hb,hh⟩ | ⟨hb,hh⟩
 · exact yb 57 hb (yb 58 hb (yb 59 hb (yt (sp 140 [z5,z6,z9,z16,z17,z11,z2,z3,z31,z32,(63,bb true)]) [z12,z1,z19,z18,z20,z23,z22,z24,z29,z28,z27,z26,z30,z35,z34,z36] 22 (cT rfl (sy [4] [] (sp 140 [z8]) [] 22 (Aw.ret (then_r (gvbs hh))))))))
 refine yb 57 hb (yb 58 hb (yb 59 hb (yt (sp 140 [z5,z6,z9,z16,z17,z11,z2,z3,z31,z32,z33]) [z12,z1,z19,z18,z20,z23,z22,z24,z29,z28,z27,z26,z30,z35,z34,z36] 22 ?_)))
 rcases cond_some hh with ⟨hb,hh⟩ | ⟨hb,hh⟩
 · exact cT hb (sy [4] [] (sp 140 [z8]) [] 22 (Aw.ret (then_r (gvbs hh))))
 refine cF hb (Aw.xskip (fun _ _ _ hq=>then_m hq) (Aw.seq (Aw.sregd [2,3,6,7,8,9,10,11,12,13,68] [0,1,8,9,10,11,12,13,14,15,16,17,18,19,20,21] [] kr (dc (cs:=[]) (E':=(sp 140 [z5,z6,z9,z16,z17,z11,z2,z3,z31,z32,z33,z21,z10])) (H':=[z12,z1,z19,z18,z20,z23,z22,z24,z29,z28,z27,z26,z30,z35,z34,z36]) (n':=22) (fs':=none) (pre:=(List.take 2 Lf8_r15)) (L':=(List.drop 2 Lf8_r15)) kr (fun K=>by kernel_rfl) .nil ?_))))
 obtain ⟨v10,hv10,hh⟩:=bind_some hh
 let q22:Root:=⟨53,(fl O_53 v10.Guests)⟩; let q23:Root:=⟨3,(fl (eI .i64) v10.Words)⟩
 refine ds (.call 41 [(.t 65)]) (some 66) (ydo_n rfl (op_call (r:=.agg [.own 3 1 (List.length v10.Words) (fl (eI .i64) v10.Words),.own 53 17 (List.length v10.Guests) (fl O_53 v10.Guests)]) (v:=.agg [sw 22 v10.Words,.sref 23 [] 0 (List.length v10.Guests) 17]) (Hr:=[(23,some q22),(22,some q23)]) (n':=24) (laws_toHost_fn hv10) (clz_v (vs:=[.agg [bo (eI .i64) x_aH.Words,bo B_149 x_aH.Guests]]) kr (clz_c (clo_agg cz) clz_n)) (by simp only [AV.noRef,noRefs,Bool.and_self,noRefs_fl nr_eI,noRefs_fl nr_O_53]) (by simp only [AV.noBor,noBors,Bool.and_self,noBors_fl nb_eI,noBors_fl nb_O_53]) kr ⟨⟨agr_name (n:=22) (n0:=22) (r:=.agg [.own 3 1 (List.length v10.Words) (fl (eI .i64) v10.Words),.own 53 17 (List.length v10.Guests) (fl O_53 v10.Guests)]) (v:=.agg [sw 22 v10.Words,.sref 23 [] 0 (List.length v10.Guests) 17]) (Hr:=[(23,some q22),(22,some q23)]) (n':=24) kr dd,Hld.un ?_⟩⟩))
 refine dct (cs:=[]) (E':=(sp 140 [z5,z6,z9,z16,z17,z11,z2,z3,z31,z32,z33,z21,z10,(66,.agg [sw 22 v10.Words,.sref 23 [] 0 (List.length v10.Guests) 17])])) (H':=[(23,some q22),(22,some q23),z12,z1,z19,z18,z20,z23,z22,z24,z29,z28,z27,z26,z30,z35,z34,z36]) (n':=24) (fun K=>by kernel_rfl) .nil ?_
 obtain ⟨v11,hv11,hh⟩:=bind_some hh
 refine ys (.call 43 [(.t 64),(.t 66)]) (some 67) (op_call (r:=bb v11) (v:=bb v11) (Hr:=[]) (n':=24) (laws_eqHost_fn hv11) (clz_v (vs:=[.agg [sw 11 v6.Words,.sref 12 [] 0 (List.length v6.Guests) 17],.agg [sw 22 v10.Words,.sref 23 [] 0 (List.length v10.Guests) 17]]) kr (clz_c (clo_agg (clos_c (clo_own (c:=(eI .i64)) (xs:=v6.Words) (e:=3) eqn len_eI no_eI cl_eI kr) (clos_c (clo_flr (B:=B_53) (xs:=v6.Guests) (e:=53) oc_O_53 len_O_53 eqn kr) clos_n))) (clz_c (clo_agg (clos_c (clo_own (c:=(eI .i64)) (xs:=v10.Words) (e:=3) eqn len_eI no_eI cl_eI kr) (clos_c (clo_flr (B:=B_53) (xs:=v10.Guests) (e:=53) oc_O_53 len_O_53 eqn kr) clos_n))) clz_n))) rfl rfl kr ?_)
 refine yt (sp 140 [z5,z6,z9,z16,z17,z11,z2,z3,z31,z32,(68,bb (!v11))]) [z12,z1,z19,z18,z20,z23,z22,z24,z29,z28,z27,z26,z30,z35,z34,z36] 24 ?_
 rcases cond_some hh with ⟨hb,hh⟩ | ⟨hb,hh⟩
 · exact cT hb (sy [4] [] (sp 140 [z8]) [] 24 (Aw.ret (then_r (gvbs hh))))
 refine cF hb (Aw.xskip (fun _ _ _ hq=>then_m hq) (Aw.seq (Aw.sregd [2,3,6,7,8,9,10,11,12,13,73] [0,1,8,9,10,11,12,13,14,15,16,17,18,19,20,21] [] kr (dc (cs:=[]) (E':=(sp 140 [z5,z6,z9,z16,z17,z11,z2,z3,z31,z32,(68,bb (!v11)),z25,(70,.agg (B_30 x_aB))])) (H':=[z12,z1,z19,z18,z20,z23,z22,z24,z29,z28,z27,z26,z30,z35,z34,z36]) (n':=24) (fs':=none) (pre:=(List.take 2 Lf8_r18)) (L':=(List.drop 2 Lf8_r18)) kr (fun K=>by kernel_rfl) .nil ?_))))
 obtain ⟨v12,hv12,hh⟩:=bind_some hh
 let q24:Root:=⟨3,(fl (eI .i64) v12.Out)⟩; let q25:Root:=⟨3,(fl (eI .i64) v12.In)⟩; let q26:Root:=⟨3,(fl (eI .i64) v12.Mem)⟩; let q27:Root:=⟨3,(fl (eI .i64) v12.C.Regs)⟩
 refine ds (.call 42 [(.t 70)]) (some 71) (ydo_n rfl (op_call (r:=.agg (.own 3 1 (List.length v12.C.Regs) (fl (eI .i64) v12.C.Regs)::ru28 v12.C [.own 3 1 (List.length v12.Mem) (fl (eI .i64) v12.Mem),.own 3 1 (List.length v12.In) (fl (eI .i64) v12.In),.own 3 1 (List.length v12.Out) (fl (eI .i64) v12.Out)])) (v:=.agg (sw 24 v12.C.Regs::ru28 v12.C [sw 25 v12.Mem,sw 26 v12.In,sw 27 v12.Out])) (Hr:=[(27,some q24),(26,some q25),(25,some q26),(24,some q27)]) (n':=28) (laws_toBare_fn hv12) (clz_v (vs:=[.agg (B_30 x_aB)]) kr (clz_c (clo_same (clean_agg (cl_B_30 _))) clz_n)) (by simp only [ru28,AV.noRef,noRefs,Bool.and_self,noRefs_fl nr_eI]) (by simp only [ru28,AV.noBor,noBors,Bool.and_self,noBors_fl nb_eI]) kr ⟨⟨agr_name (n:=24) (n0:=24) (r:=.agg (.own 3 1 (List.length v12.C.Regs) (fl (eI .i64) v12.C.Regs)::ru28 v12.C [.own 3 1 (List.length v12.Mem) (fl (eI .i64) v12.Mem),.own 3 1 (List.length v12.In) (fl (eI .i64) v12.In),.own 3 1 (List.length v12.Out) (fl (eI .i64) v12.Out)])) (v:=.agg (sw 24 v12.C.Regs::ru28 v12.C [sw 25 v12.Mem,sw 26 v12.In,sw 27 v12.Out])) (Hr:=[(27,some q24),(26,some q25),(25,some q26),(24,some q27)]) (n':=28) kr dd,Hld.un ?_⟩⟩))
 refine dct (cs:=[]) (E':=(sp 140 [z5,z6,z9,z16,z17,z11,z2,z3,z31,z32,(68,bb (!v11)),z25,(70,.agg (B_30 x_aB)),(71,.agg (sw 24 v12.C.Regs::ru28 v12.C [sw 25 v12.Mem,sw 26 v12.In,sw 27 v12.Out]))])) (H':=[(27,some q24),(26,some q25),(25,some q26),(24,some q27),z12,z1,z19,z18,z20,z23,z22,z24,z29,z28,z27,z26,z30,z35,z34,z36]) (n':=28) (fun K=>by kernel_rfl) .nil ?_
 obtain ⟨v13,hv13,hh⟩:=bind_some hh
 refine ys (.call 44 [(.t 69),(.t 71)]) (some 72) (op_call (r:=bb v13) (v:=bb v13) (Hr:=[]) (n':=28) (laws_eqBare_fn hv13) (clz_v (vs:=[.agg (sw 14 v7.C.Regs::ru28 v7.C [sw 15 v7.Mem,sw 16 v7.In,sw 17 v7.Out]),.agg (sw 24 v12.C.Regs::ru28 v12.C [sw 25 v12.Mem,sw 26 v12.In,sw 27 v12.Out])]) kr (clz_c (clo_agg (clos_c (clo_own (c:=(eI .i64)) (xs:=v7.C.Regs) (e:=3) eqn len_eI no_eI cl_eI kr) (cs1 (cs1 (cs1 (cs1 (cs1 (cs1 (cs1 (cs1 (cs1 (cs1 (cs1 (cs1 (clos_c (clo_own (c:=(eI .i64)) (xs:=v7.Mem) (e:=3) eqn len_eI no_eI cl_eI kr) (clos_c (clo_own (c:=(eI .i64)) (xs:=v7.In) (e:=3) eqn len_eI no_eI cl_eI kr) (clos_c (clo_own (c:=(eI .i64)) (xs:=v7.Out) (e:=3) eqn len_eI no_eI cl_eI kr) clos_n))))))))))))))))) (clz_c (clo_agg (clos_c (clo_own (c:=(eI .i64)) (xs:=v12.C.Regs) (e:=3) eqn len_eI no_eI cl_eI kr) (cs1 (cs1 (cs1 (cs1 (cs1 (cs1 (cs1 (cs1 (cs1 (cs1 (cs1 (cs1 (clos_c (clo_own (c:=(eI .i64)) (xs:=v12.Mem) (e:=3) eqn len_eI no_eI cl_eI kr) (clos_c (clo_own (c:=(eI .i64)) (xs:=v12.In) (e:=3) eqn len_eI no_eI cl_eI kr) (clos_c (clo_own (c:=(eI .i64)) (xs:=v12.Out) (e:=3) eqn len_eI no_eI cl_eI kr) clos_n))))))))))))))))) clz_n))) rfl rfl kr ?_)
 refine yt (sp 140 [z5,z6,z9,z16,z17,z11,z2,z3,z31,z32,(73,bb (!v13))]) [z12,z1,z19,z18,z20,z23,z22,z24,z29,z28,z27,z26,z30,z35,z34,z36] 28 ?_
 rcases cond_some hh with ⟨hb,hh⟩ | ⟨hb,hh⟩
 · exact cT hb (sy [4] [] (sp 140 [z8]) [] 28 (Aw.ret (then_r (gvbs hh))))
 refine cF hb (Aw.xskip (fun _ _ _ hq=>then_m hq) (sy [2,3,6,7,8,9,10,11,12,13,14] [0,1,8,9,10,11,12,13,14,15,16,17,18,19,20,21] (sp 140 [z5,z6,z9,z16,z17,z11,z2,z3,z31,z32,(14,ii 1)]) [z12,z1,z19,z18,z20,z23,z22,z24,z29,z28,z27,z26,z30,z35,z34,z36] 28 (Aw.sreg [2,3,6,7,8,10,11,12,13,14] [0,1,8,9,10,14,15,16,17,18,19,20,21] (yu 2 [(74,.agg [sw 11 v6.Words,.sref 12 [] 0 (List.length v6.Guests) 17]),(75,ii 1)] [z12,z1,z19,z18,z20,z23,z22,z24,z29,z28,z27,z26,z30,z35,z34,z36] 28 ?_))))
 obtain ⟨v14,hv14,hh⟩:=bind_some hh
 obtain ⟨hg3,hh⟩:=grd_some hh
 obtain ⟨hg4,hh⟩:=grd_some hh
 let q28:Root:=⟨3,(fl (eI .i64) v14.1)⟩
 refine ys (.call 45 [(.t 74),(.t 75)]) (some 76) (op_callf (v':=ii v14.2.2) (Hp':=[(11,some q28),(12,some ⟨53,(fl O_53 v14.2.1)⟩)]) (n':=28) [11,12] (laws_markHost_fn hv14) (args':=[.agg [sw 11 v6.Words,.sref 12 [] 0 (List.length v6.Guests) 17],ii 1]) kr rfl rfl rfl rz rfl (hn nr_O_53 (hn nr_eI hs_nil)) ren_i rfl (hn nr_eI (hn nr_O_53 hs_nil)) rfl ?_)
 refine yt (sp 140 [z5,z6,z9,z16,z17,z2,z3,z31,z32,(14,ii v14.2.2)]) [z12,z1,z19,z18,z20,z29,z28,z27,z26,z30,z35,z34,z36] 28 (Aw.sreg [2,3,6,7,8,11,12,13,14] [0,1,8,9,10,19,20,21] (yu 2 [(77,.agg (sw 14 v7.C.Regs::ru28 v7.C [sw 15 v7.Mem,sw 16 v7.In,sw 17 v7.Out])),(78,ii v14.2.2)] [z12,z1,z19,z18,z20,z29,z28,z27,z26,z30,z35,z34,z36] 28 ?_))
 obtain ⟨v15,hv15,hh⟩:=bind_some hh
 obtain ⟨hg9,hh⟩:=grd_some hh
 obtain ⟨hg10,hh⟩:=grd_some hh
 obtain ⟨hg11,hh⟩:=grd_some hh
 obtain ⟨hg12,hh⟩:=grd_some hh
 let q29:Root:=⟨3,(fl (eI .i64) v15.1)⟩; let q30:Root:=⟨3,(fl (eI .i64) v15.2.1)⟩; let q31:Root:=⟨3,(fl (eI .i64) v15.2.2.1)⟩; let q32:Root:=⟨3,(fl (eI .i64) v15.2.2.2.1)⟩
 refine ys (.call 46 [(.t 77),(.t 78)]) (some 79) (op_callf (v':=ii v15.2.2.2.2) (Hp':=[(14,some q29),(15,some q30),(16,some q31),(17,some q32)]) (n':=28) [14,15,16,17] (laws_markBare_fn hv15) (args':=[.agg (sw 14 v7.C.Regs::ru28 v7.C [sw 15 v7.Mem,sw 16 v7.In,sw 17 v7.Out]),ii v14.2.2]) kr rfl rfl rfl rz rfl (hn nr_eI (hn nr_eI (hn nr_eI (hn nr_eI hs_nil)))) ren_i rfl (hn nr_eI (hn nr_eI (hn nr_eI (hn nr_eI hs_nil)))) rfl ?_)
 refine yt (sp 140 [z5,z6,z9,z16,z17,z3,z31,z32,(14,ii v15.2.2.2.2)]) [z12,z1,z19,z18,z20,z35,z34,z36] 28 (Aw.seq (Aw.sreg [2,3,6,7,8,11,97] [0,1,8,9,10,19,20,21] (yj 3  (sp 140 [z5,z6,z9,z16,z17,z3,z31,z32,(14,ii v15.2.2.2.2),(80,ii v15.2.2.2.2),(81,bb (decide (v15.2.2.2.2<(0:Int)))),(82,bb (decide (v15.2.2.2.2<(0:Int))))]) [z12,z1,z19,z18,z20,z35,z34,z36] 28 ?_)))
 rcases cond_some hh with ⟨hb,hh⟩ | ⟨hb,hh⟩
 · exact yb 81 hb (yb 82 hb (yt (sp 140 [z5,z6,z9,z16,z17,z3,(97,bb true)]) [z12,z1,z19,z18,z20,z35,z34,z36] 28 (cT rfl (sy [4] [] (sp 140 [z8]) [] 28 (Aw.ret (then_r (gvbs hh)))))))
 refine yb 81 hb (yb 82 hb (yu 2 [(81,bb false),(82,bb false),(83,.agg [sw 19 v8.1.Words,.sref 20 [] 0 (List.length v8.1.Guests) 17]),(84,.agg [sw 8 v5.1.Words,.sref 9 [] 0 (List.length v5.1.Guests) 17])] [z12,z1,z19,z18,z20,z35,z34,z36] 28 ?_))
 obtain ⟨v16,hv16,hh⟩:=bind_some hh
 refine yg (.call 43 [(.t 83),(.t 84)]) (some 85) 82 false (op_call (r:=bb v16) (v:=bb v16) (Hr:=[]) (n':=28) (laws_eqHost_fn hv16) (clz_v (vs:=[.agg [sw 19 v8.1.Words,.sref 20 [] 0 (List.length v8.1.Guests) 17],.agg [sw 8 v5.1.Words,.sref 9 [] 0 (List.length v5.1.Guests) 17]]) kr (clz_c (clo_agg (clos_c (clo_own (c:=(eI .i64)) (xs:=v8.1.Words) (e:=3) eqn len_eI no_eI cl_eI kr) (clos_c (clo_flr (B:=B_53) (xs:=v8.1.Guests) (e:=53) oc_O_53 len_O_53 eqn kr) clos_n))) (clz_c (clo_agg (clos_c (clo_own (c:=(eI .i64)) (xs:=v5.1.Words) (e:=3) eqn len_eI no_eI cl_eI kr) (clos_c (clo_flr (B:=B_53) (xs:=v5.1.Guests) (e:=53) oc_O_53 len_O_53 eqn kr) clos_n))) clz_n))) rfl rfl kr ?_)
 refine yu 3 [(85,bb v16),(86,bb (!v16)),(87,bb (!v16)),(88,bb (!v16))] [z12,z1,z19,z18,z20,z35,z34,z36] 28 ?_
 rcases cond_some hh with ⟨hb,hh⟩ | ⟨hb,hh⟩
 · exact yb 86 hb (yb 87 hb (yb 88 hb (yt (sp 140 [z5,z6,z9,z16,z17,z3,(97,bb true)]) [z12,z1,z19,z18,z20,z35,z34,z36] 28 (cT rfl (sy [4] [] (sp 140 [z8]) [] 28 (Aw.ret (then_r (gvbs hh))))))))
 refine yb 86 hb (yb 87 hb (yb 88 hb (yu 5 [(86,bb false),(87,bb false),(88,bb false),(89,ii v8.2.1),(90,ii v5.2.1),(91,bb (!decide (v8.2.1=v5.2.1))),(92,bb (!decide (v8.2.1=v5.2.1))),(93,bb (!decide (v8.2.1=v5.2.1)))] [z12,z1,z19,z18,z20,z35,z34,z36] 28 ?_)))
 rcases cond_some hh with ⟨hb,hh⟩ | ⟨hb,hh⟩
 · exact yb 91 hb (yb 92 hb (yb 93 hb (yt (sp 140 [z5,z6,z9,z16,z17,z3,(97,bb true)]) [z12,z1,z19,z18,z20,z35,z34,z36] 28 (cT rfl (sy [4] [] (sp 140 [z8]) [] 28 (Aw.ret (then_r (gvbs hh))))))))
 refine yb 91 hb (yb 92 hb (yb 93 hb (yt (sp 140 [z5,z6,z9,z16,z17,z3,(97,bb (!(v8.2.2 == v5.2.2)))]) [z12,z1,z19,z18,z20,z35,z34,z36] 28 ?_)))
 rcases cond_some hh with ⟨hb,hh⟩ | ⟨hb,hh⟩
 · exact cT hb (sy [4] [] (sp 140 [z8]) [] 28 (Aw.ret (then_r (gvbs hh))))
 refine cF hb (Aw.xskip (fun _ _ _ hq=>then_m hq) (sy [2,3,6,7,8,11,15] [0,1,8,9,10,19,20,21] (sp 140 [z5,z6,z9,z16,z17,z3,(15,ii 1)]) [z12,z1,z19,z18,z20,z35,z34,z36] 28 (Aw.sreg [2,3,6,7,8,11,15] [0,1,8,9,10,19,20,21] (yu 2 [(98,.agg [sw 19 v8.1.Words,.sref 20 [] 0 (List.length v8.1.Guests) 17]),(99,ii 1)] [z12,z1,z19,z18,z20,z35,z34,z36] 28 ?_))))
 obtain ⟨v17,hv17,hh⟩:=bind_some hh
 let z37:=(15,ii v17.2.2); let z38:EH:=(20,some ⟨53,(fl O_53 v17.2.1)⟩)
 obtain ⟨hg15,hh⟩:=grd_some hh
 obtain ⟨hg16,hh⟩:=grd_some hh
 let q33:Root:=⟨3,(fl (eI .i64) v17.1)⟩; let z39:=(19,some q33)
 refine ys (.call 45 [(.t 98),(.t 99)]) (some 100) (op_callf (v':=ii v17.2.2) (Hp':=[z39,z38]) (n':=28) [19,20] (laws_markHost_fn hv17) (args':=[.agg [sw 19 v8.1.Words,.sref 20 [] 0 (List.length v8.1.Guests) 17],ii 1]) kr rfl rfl rfl rz rfl (hn nr_O_53 (hn nr_eI hs_nil)) ren_i rfl (hn nr_eI (hn nr_O_53 hs_nil)) rfl ?_)
 refine yt (sp 140 [z5,z6,z9,z16,z17,z3,z37]) [z12,z1,z19,z18,z20,z39,z38,z36] 28 (sy [2,3,6,7,8,11,15,16] [0,1,8,9,10,19,20,21] (sp 140 [z5,z6,z9,z16,z17,z3,z37,(16,ii 1)]) [z12,z1,z19,z18,z20,z39,z38,z36] 28 (Aw.sreg [2,3,6,7,8,11,15,16] [0,1,8,9,10,19,20,21] (yu 2 [(101,.agg [sw 19 v8.1.Words,.sref 20 [] 0 (List.length v8.1.Guests) 17]),(102,ii 1)] [z12,z1,z19,z18,z20,z39,z38,z36] 28 ?_)))
 obtain ⟨v18,hv18,hh⟩:=bind_some hh
 let z40:=(108,bb (!decide (v18=v17.2.2)))
 refine ys (.call 47 [(.t 101),(.t 102)]) (some 103) (op_call (r:=ii v18) (v:=ii v18) (Hr:=[]) (n':=28) (laws_heldHost_fn hv18) (clz_v (vs:=[.agg [sw 19 v8.1.Words,.sref 20 [] 0 (List.length v8.1.Guests) 17],ii 1]) kr (clz_c (clo_agg (clos_c (clo_own (c:=(eI .i64)) (xs:=v17.1) (e:=3) eqn len_eI no_eI cl_eI kr) (clos_c (clo_flr (B:=B_53) (xs:=v17.2.1) (e:=53) oc_O_53 len_O_53 eqn kr) clos_n))) (cz1 clz_n))) rfl rfl kr ?_)
 refine yt (sp 140 [z5,z6,z9,z16,z17,z3,z37,(16,ii v18)]) [z12,z1,z19,z18,z20,z39,z38,z36] 28 (Aw.seq (sy [2,3,6,7,8,11,15,16,105] [0,1,8,9,10,19,20,21] (sp 140 [z5,z6,z9,z16,z17,z3,z37,(16,ii v18),(105,bb (decide (v18<(0:Int))))]) [z12,z1,z19,z18,z20,z39,z38,z36] 28 ?_))
 rcases cond_some hh with ⟨hb,hh⟩ | ⟨hb,hh⟩
 · exact cT hb (sy [4] [] (sp 140 [z8]) [] 28 (Aw.ret (then_r (gvbs hh))))
 refine cF hb (Aw.xskip (fun _ _ _ hq=>then_m hq) (Aw.seq (sy [2,3,6,7,8,11,15,108] [0,1,8,9,10,19,20,21] (sp 140 [z5,z6,z9,z16,z17,z3,z37,z40]) [z12,z1,z19,z18,z20,z39,z38,z36] 28 ?_)))
 rcases cond_some hh with ⟨hb,hh⟩ | ⟨hb,hh⟩
 · exact cT hb (sy [4] [] (sp 140 [z8]) [] 28 (Aw.ret (then_r (gvbs hh))))
 refine cF hb (Aw.xskip (fun _ _ _ hq=>then_m hq) (Aw.sregd [6,7,8,11,15,17,18,19] [8,9,10,19,20,21,34,35,36] [] kr (dc (cs:=[]) (E':=(sp 140 [z5,z6,z9,z16,z17,z3,z37,z40,z4])) (H':=[z12,z1,z19,z18,z20,z39,z38,z36]) (n':=28) (fs':=none) (pre:=(List.take 1 Lf8_r34)) (L':=(List.drop 1 Lf8_r34)) kr (fun K=>by kernel_rfl) .nil ?_)))
 obtain ⟨v19,hv19,hh⟩:=bind_some hh
 let z41:EV:=(111,.agg [sw 28 v19.Words,.sref 29 [] 0 (List.length v19.Guests) 17]); let q34:Root:=⟨53,(fl O_53 v19.Guests)⟩; let z42:=(29,some q34); let q35:Root:=⟨3,(fl (eI .i64) v19.Words)⟩; let z43:=(28,some q35)
 refine ds (.call 41 [(.t 110)]) (some 111) (ydo_n rfl (op_call (r:=.agg [.own 3 1 (List.length v19.Words) (fl (eI .i64) v19.Words),.own 53 17 (List.length v19.Guests) (fl O_53 v19.Guests)]) (v:=.agg [sw 28 v19.Words,.sref 29 [] 0 (List.length v19.Guests) 17]) (Hr:=[z42,z43]) (n':=30) (laws_toHost_fn hv19) (clz_v (vs:=[.agg [bo (eI .i64) x_aH.Words,bo B_149 x_aH.Guests]]) kr (clz_c (clo_agg cz) clz_n)) (by simp only [AV.noRef,noRefs,Bool.and_self,noRefs_fl nr_eI,noRefs_fl nr_O_53]) (by simp only [AV.noBor,noBors,Bool.and_self,noBors_fl nb_eI,noBors_fl nb_O_53]) kr ⟨⟨agr_name (n:=28) (n0:=28) (r:=.agg [.own 3 1 (List.length v19.Words) (fl (eI .i64) v19.Words),.own 53 17 (List.length v19.Guests) (fl O_53 v19.Guests)]) (v:=.agg [sw 28 v19.Words,.sref 29 [] 0 (List.length v19.Guests) 17]) (Hr:=[z42,z43]) (n':=30) kr dd,Hld.un ?_⟩⟩))
 refine dc (cs:=[]) (E':=(sp 140 [z5,z6,z9,z16,z17,z3,z37,z40,z4,z41,(112,.agg (B_30 x_aB))])) (H':=[z42,z43,z12,z1,z19,z18,z20,z39,z38,z36]) (n':=30) (fs':=none) (pre:=(List.take 1 (List.drop 2 Lf8_r34))) (L':=(List.drop 3 Lf8_r34)) kr (fun K=>by kernel_rfl) .nil ?_
 obtain ⟨v20,hv20,hh⟩:=bind_some hh
 let q36:Root:=⟨3,(fl (eI .i64) v20.Out)⟩; let q37:Root:=⟨3,(fl (eI .i64) v20.In)⟩; let q38:Root:=⟨3,(fl (eI .i64) v20.Mem)⟩; let q39:Root:=⟨3,(fl (eI .i64) v20.C.Regs)⟩
 refine ds (.call 42 [(.t 112)]) (some 113) (ydo_n rfl (op_call (r:=.agg (.own 3 1 (List.length v20.C.Regs) (fl (eI .i64) v20.C.Regs)::ru28 v20.C [.own 3 1 (List.length v20.Mem) (fl (eI .i64) v20.Mem),.own 3 1 (List.length v20.In) (fl (eI .i64) v20.In),.own 3 1 (List.length v20.Out) (fl (eI .i64) v20.Out)])) (v:=.agg (sw 30 v20.C.Regs::ru28 v20.C [sw 31 v20.Mem,sw 32 v20.In,sw 33 v20.Out])) (Hr:=[(33,some q36),(32,some q37),(31,some q38),(30,some q39)]) (n':=34) (laws_toBare_fn hv20) (clz_v (vs:=[.agg (B_30 x_aB)]) kr (clz_c (clo_same (clean_agg (cl_B_30 _))) clz_n)) (by simp only [ru28,AV.noRef,noRefs,Bool.and_self,noRefs_fl nr_eI]) (by simp only [ru28,AV.noBor,noBors,Bool.and_self,noBors_fl nb_eI]) kr ⟨⟨agr_name (n:=30) (n0:=28) (r:=.agg (.own 3 1 (List.length v20.C.Regs) (fl (eI .i64) v20.C.Regs)::ru28 v20.C [.own 3 1 (List.length v20.Mem) (fl (eI .i64) v20.Mem),.own 3 1 (List.length v20.In) (fl (eI .i64) v20.In),.own 3 1 (List.length v20.Out) (fl (eI .i64) v20.Out)])) (v:=.agg (sw 30 v20.C.Regs::ru28 v20.C [sw 31 v20.Mem,sw 32 v20.In,sw 33 v20.Out])) (Hr:=[(33,some q36),(32,some q37),(31,some q38),(30,some q39)]) (n':=34) kr dd,Hld.un ?_⟩⟩))
 obtain ⟨v21,hv21,hh⟩:=bind_some hh
 let q40:Root:=⟨53,(fl O_53 v21.1.Guests)⟩; let z44:=(35,some q40); let q41:Root:=⟨3,(fl (eI .i64) v21.1.Words)⟩; let z45:=(34,some q41)
 refine ds (.call 18 [(.t 111),(.t 113)]) (some 114) (ydo_n rfl (op_call (r:=.tup [.agg [.own 3 1 (List.length v21.1.Words) (fl (eI .i64) v21.1.Words),.own 53 17 (List.length v21.1.Guests) (fl O_53 v21.1.Guests)],ii v21.2.1,bb v21.2.2]) (v:=.tup [.agg [sw 34 v21.1.Words,.sref 35 [] 0 (List.length v21.1.Guests) 17],ii v21.2.1,bb v21.2.2]) (Hr:=[z44,z45]) (n':=36) (impl_HostBoot_fn hv21) (clz_v (vs:=[.agg [sw 28 v19.Words,.sref 29 [] 0 (List.length v19.Guests) 17],.agg (sw 30 v20.C.Regs::ru28 v20.C [sw 31 v20.Mem,sw 32 v20.In,sw 33 v20.Out])]) kr (clz_c (clo_agg (clos_c (clo_own (c:=(eI .i64)) (xs:=v19.Words) (e:=3) eqn len_eI no_eI cl_eI kr) (clos_c (clo_flr (B:=B_53) (xs:=v19.Guests) (e:=53) oc_O_53 len_O_53 eqn kr) clos_n))) (clz_c (clo_agg (clos_c (clo_own (c:=(eI .i64)) (xs:=v20.C.Regs) (e:=3) eqn len_eI no_eI cl_eI kr) (cs1 (cs1 (cs1 (cs1 (cs1 (cs1 (cs1 (cs1 (cs1 (cs1 (cs1 (cs1 (clos_c (clo_own (c:=(eI .i64)) (xs:=v20.Mem) (e:=3) eqn len_eI no_eI cl_eI kr) (clos_c (clo_own (c:=(eI .i64)) (xs:=v20.In) (e:=3) eqn len_eI no_eI cl_eI kr) (clos_c (clo_own (c:=(eI .i64)) (xs:=v20.Out) (e:=3) eqn len_eI no_eI cl_eI kr) clos_n))))))))))))))))) clz_n))) (by simp only [ru28,AV.noRef,noRefs,Bool.and_self,noRefs_fl nr_eI,noRefs_fl nr_O_53]) (by simp only [ru28,AV.noBor,noBors,Bool.and_self,noBors_fl nb_eI,noBors_fl nb_O_53]) kr ⟨⟨agr_name (n:=34) (n0:=28) (r:=.tup [.agg [.own 3 1 (List.length v21.1.Words) (fl (eI .i64) v21.1.Words),.own 53 17 (List.length v21.1.Guests) (fl O_53 v21.1.Guests)],ii v21.2.1,bb v21.2.2]) (v:=.tup [.agg [sw 34 v21.1.Words,.sref 35 [] 0 (List.length v21.1.Guests) 17],ii v21.2.1,bb v21.2.2]) (Hr:=[z44,z45]) (n':=36) kr dd,Hld.un ?_⟩⟩))
 refine dct (cs:=[]) (E':=(sp 140 [z5,z6,z9,z16,z17,z3,z37,(17,pp 36),z40,(109,.tup [.agg [sw 34 v21.1.Words,.sref 35 [] 0 (List.length v21.1.Guests) 17],ii v21.2.1,bb v21.2.2]),z4,z41,(112,.agg (B_30 x_aB)),(113,.agg (sw 30 v20.C.Regs::ru28 v20.C [sw 31 v20.Mem,sw 32 v20.In,sw 33 v20.Out])),(114,.tup [.agg [sw 34 v21.1.Words,.sref 35 [] 0 (List.length v21.1.Guests) 17],ii v21.2.1,bb v21.2.2]),(115,.agg [sw 34 v21.1.Words,.sref 35 [] 0 (List.length v21.1.Guests) 17]),(116,ii v21.2.1),(117,bb v21.2.2)])) (H':=[(36,some ⟨26,[.nil,.nil]⟩),z44,z45,(33,some q36),(32,some q37),(31,some q38),(30,some q39),z42,z43,z12,z1,z19,z18,z20,z39,z38,z36]) (n':=37) (fun K=>by kernel_rfl) .nil ?_
 let q42:Root:=⟨26,[sw 34 v21.1.Words,.sref 35 [] 0 (List.length v21.1.Guests) 17]⟩; let z46:=(36,some q42)
 refine yt (sp 140 [z9,z16,z17,z3,z37,(17,pp 36),(18,ii v21.2.1),(19,bb v21.2.2)]) [z19,z18,z20,z39,z38,z36,z45,z44,z46] 37 (Aw.seq (Aw.sreg [11,15,131] [19,20,21] (yj 2  (sp 140 [z9,z16,z17,z3,z37,(17,pp 36),(18,ii v21.2.1),(19,bb v21.2.2),(118,.agg [sw 34 v21.1.Words,.sref 35 [] 0 (List.length v21.1.Guests) 17]),(119,.agg [sw 8 v5.1.Words,.sref 9 [] 0 (List.length v5.1.Guests) 17])]) [z19,z18,z20,z39,z38,z36,z45,z44,z46] 37 ?_)))
 obtain ⟨v22,hv22,hh⟩:=bind_some hh
 refine ys (.call 43 [(.t 118),(.t 119)]) (some 120) (op_call (r:=bb v22) (v:=bb v22) (Hr:=[]) (n':=37) (laws_eqHost_fn hv22) (clz_v (vs:=[.agg [sw 34 v21.1.Words,.sref 35 [] 0 (List.length v21.1.Guests) 17],.agg [sw 8 v5.1.Words,.sref 9 [] 0 (List.length v5.1.Guests) 17]]) kr (clz_c (clo_agg (clos_c (clo_own (c:=(eI .i64)) (xs:=v21.1.Words) (e:=3) eqn len_eI no_eI cl_eI kr) (clos_c (clo_flr (B:=B_53) (xs:=v21.1.Guests) (e:=53) oc_O_53 len_O_53 eqn kr) clos_n))) (clz_c (clo_agg (clos_c (clo_own (c:=(eI .i64)) (xs:=v5.1.Words) (e:=3) eqn len_eI no_eI cl_eI kr) (clos_c (clo_flr (B:=B_53) (xs:=v5.1.Guests) (e:=53) oc_O_53 len_O_53 eqn kr) clos_n))) clz_n))) rfl rfl kr ?_)
 refine yu 2 [(120,bb v22),(121,bb (!v22)),(122,bb (!v22))] [z19,z18,z20,z39,z38,z36,z45,z44,z46] 37 ?_
 rcases cond_some hh with ⟨hb,hh⟩ | ⟨hb,hh⟩
 · exact yb 121 hb (yb 122 hb (yt (sp 140 [z3,z37,(131,bb true)]) [z39,z38,z36] 37 (cT rfl (sy [4] [] (sp 140 [z8]) [] 37 (Aw.ret (then_r (gvbs hh)))))))
 refine yb 121 hb (yb 122 hb (yu 5 [(121,bb false),(122,bb false),(123,ii v21.2.1),(124,ii v5.2.1),(125,bb (!decide (v21.2.1=v5.2.1))),(126,bb (!decide (v21.2.1=v5.2.1))),(127,bb (!decide (v21.2.1=v5.2.1)))] [z19,z18,z20,z39,z38,z36,z45,z44,z46] 37 ?_))
 rcases cond_some hh with ⟨hb,hh⟩ | ⟨hb,hh⟩
 · exact yb 125 hb (yb 126 hb (yb 127 hb (yt (sp 140 [z3,z37,(131,bb true)]) [z39,z38,z36] 37 (cT rfl (sy [4] [] (sp 140 [z8]) [] 37 (Aw.ret (then_r (gvbs hh))))))))
 refine yb 125 hb (yb 126 hb (yb 127 hb (yt (sp 140 [z3,z37,(131,bb (!(v21.2.2 == v5.2.2)))]) [z39,z38,z36] 37 ?_)))
 rcases cond_some hh with ⟨hb,hh⟩ | ⟨hb,hh⟩
 · exact cT hb (sy [4] [] (sp 140 [z8]) [] 37 (Aw.ret (then_r (gvbs hh))))
 refine cF hb (Aw.xskip (fun _ _ _ hq=>then_m hq) (sy [11,15,16] [19,20,21] (sp 140 [z3,z37,(16,ii 1)]) [z39,z38,z36] 37 (Aw.sreg [15,16] [] (yu 2 [(132,.agg [sw 19 v8.1.Words,.sref 20 [] 0 (List.length v8.1.Guests) 17]),(133,ii 1)] [z39,z38,z36] 37 ?_))))
 obtain ⟨v23,hv23,hh⟩:=bind_some hh
 refine ys (.call 47 [(.t 132),(.t 133)]) (some 134) (op_call (r:=ii v23) (v:=ii v23) (Hr:=[]) (n':=37) (laws_heldHost_fn hv23) (clz_v (vs:=[.agg [sw 19 v8.1.Words,.sref 20 [] 0 (List.length v8.1.Guests) 17],ii 1]) kr (clz_c (clo_agg (clos_c (clo_own (c:=(eI .i64)) (xs:=v17.1) (e:=3) eqn len_eI no_eI cl_eI kr) (clos_c (clo_flr (B:=B_53) (xs:=v17.2.1) (e:=53) oc_O_53 len_O_53 eqn kr) clos_n))) (cz1 clz_n))) rfl rfl kr ?_)
 refine yt (sp 140 [z37,(16,ii v23)]) [] 37 (Aw.seq (sy [15,16,136] [] (sp 140 [z37,(16,ii v23),(136,bb (decide (v23<(0:Int))))]) [] 37 ?_))
 rcases cond_some hh with ⟨hb,hh⟩ | ⟨hb,hh⟩
 · exact cT hb (sy [4] [] (sp 140 [z8]) [] 37 (Aw.ret (then_r (gvbs hh))))
 refine cF hb (Aw.xskip (fun _ _ _ hq=>then_m hq) (Aw.seq (sy [139] [] (sp 140 [(139,bb (!decide (v23=v17.2.2)))]) [] 37 ?_)))
 rcases cond_some hh with ⟨hb,hh⟩ | ⟨hb,hh⟩
 · exact cT hb (sy [4] [] (sp 140 [z8]) [] 37 (Aw.ret (then_r (gvbs hh))))
 exact cF hb (Aw.xskip (fun _ _ _ hq=>then_m hq) (sy [4] [] (sp 140 [(4,bb true)]) [] 37 (Aw.ret (gvbs hh))))
end Go.Proofs.Ytlikfpmbcdlnjaa
