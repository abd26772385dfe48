/- Plain functions of the program, and that it hands back what they say. Made by program. -/
import Derived.Test.YtlikfpmbcdlnjaaWT
import Derived.Test.YtlikfpmbcdlnjaaProg
import Derived.Test.YtlikfpmbcdlnjaaWD1
import Derived.Test.YtlikfpmbcdlnjaaWGS1
import Derived.Test.YtlikfpmbcdlnjaaWHV1
import Derived.Test.YtlikfpmbcdlnjaaWO1
import Derived.Test.YtlikfpmbcdlnjaaWSO1
import Derived.Test.YtlikfpmbcdlnjaaWSW1
namespace Go.Proofs.Ytlikfpmbcdlnjaa
open Go.RowKit
set_option maxRecDepth 100000
set_option linter.all false
set_option maxHeartbeats 0
def Lf32_r0:List LOper:=[oN 10 0]
def Lf32_r1:List LOper:=[om 12 0,oK 13 95 [12],oU 14 13,om 15 14,og 16 (.mv (.t 1)) 15 false,og 17 (.call 96 [(.t 16)]) 15 false,og 18 (.un .not (.t 17)) 15 false,oQ 19 15 18,om 20 19,og 21 (.mv (.t 2)) 20 false,og 22 (.call 91 [(.t 21)]) 20 false,og 23 (.un .not (.t 22)) 20 false,oQ 24 20 23]
def Lf32_r2:List LOper:=[oN 10 (-1)]
def Lf32_r3:List LOper:=[om 25 1,ob 26 .eql 25 (-1)]
def Lf32_r4:List LOper:=[om 27 2,om 10 27]
def Lf32_r5:List LOper:=[om 28 0,om 29 1,ob 30 .mul 29 8,om 31 2,ob 32 .quo 31 8,oB 33 .add 30 32,oi 34 1 28 33,ol 35 34,oK 36 97 [35],oo 11 (.fresh 111 [(bb false),(bb false),(bb false),(ii 0)]),oS 4 11 36]
def Lf32_r6:List LOper:=[oL 37 4 11,om 38 3,om 39 4,oK 40 98 [37,38,39],oU 41 40]
def Lf32_r7:List LOper:=[oN 10 (-1)]
def Lf32_r8:List LOper:=[oA 42 3 11,ol 43 42,ob 44 .mul 43 8,om 45 2,ob 46 .rem 45 8,oB 47 .add 44 46,om 10 47]
def Lf32:LFun:=⟨48,[(.tmp 10)],(.seq (.reg false Lf32_r0) (.seq (.seq (.reg false Lf32_r1) (.cond (.t 24) (.seq (.reg false Lf32_r2) .ret) .skip)) (.seq (.seq (.reg false Lf32_r3) (.cond (.t 26) (.seq (.reg false Lf32_r4) .ret) .skip)) (.seq (.reg false Lf32_r5) (.seq (.seq (.reg false Lf32_r6) (.cond (.t 41) (.seq (.reg false Lf32_r7) .ret) .skip)) (.seq (.reg false Lf32_r8) .ret))))))⟩
theorem low_impl_Walk:lowFun Go.Proofs.Try.prog 32=some Lf32:=by kernel_rfl
noncomputable def F_impl_Walk (x_mem:List Int) (x_root:Int) (x_addr:Int) (x_user:Bool) (x_write:Bool):Option Int :=
 Option.bind (F_impl_MemOk x_mem) fun v1 =>
 cond (!v1)
  (some (-1:Int))
  (Option.bind (F_impl_rootOk x_root) fun v2 =>
  cond (!v2)
   (some (-1:Int))
   (Option.bind (F_impl_addressOk x_addr) fun v3 =>
   cond (!v3)
    (some (-1:Int))
    (cond (decide (x_root=(-1:Int)))
     (some x_addr)
     (grd ((0:Int)≤(w64 ((w64 (x_root*(8:Int)))+(w64 (Int.tdiv x_addr (8:Int)))))∧(w64 ((w64 (x_root*(8:Int)))+(w64 (Int.tdiv x_addr (8:Int)))))<((List.length x_mem:Nat):Int)) (Option.bind (F_impl_EntryFrom (List.getD x_mem (Int.toNat (w64 ((w64 (x_root*(8:Int)))+(w64 (Int.tdiv x_addr (8:Int)))))) default)) fun v4 =>
      Option.bind (F_impl_entryLets v4 x_user x_write) fun v5 =>
      cond (!v5)
       (some (-1:Int))
       (some (w64 ((w64 (v4.Page*(8:Int)))+(Int.tmod x_addr (8:Int))))))))))
theorem impl_Walk_fn {x_mem:List Int} {x_root:Int} {x_addr:Int} {x_user:Bool} {x_write:Bool} {R_:Int} (hh:F_impl_Walk x_mem x_root x_addr x_user x_write=some R_):Fn Try.prog 32 [bo (eI .i64) x_mem,.int .i64 x_root,.int .i64 x_addr,.bool x_user,.bool x_write] (.int .i64 R_):=by
 let z1:=(0,bo (eI .i64) x_mem); let z2:=(1,ii x_root); let z3:=(10,ii (-1)); let z4:=(2,ii x_addr); let z5:=(26,bb (decide (x_root=(-1:Int)))); let z6:=(3,bb x_user); let z7:=(4,bb x_write)
 unfold F_impl_Walk at hh
 refine Fn.start low_impl_Walk [0,1,2,3,4] (E:=sp 48 [z1,z2,z4,z6,z7]) kr (v:=ii R_) (Hr:=[]) (k:=0) kr (sy [0,1,2,3,4] [] (sp 48 [z1,z2,z4,z6,z7]) [] 0 (Aw.seq (Aw.sreg [0,1,2,3,4,24] [] (yj 1  (sp 48 [z1,z2,z4,z6,z7,(12,bo (eI .i64) x_mem)]) [] 0 ?_))))
 obtain ⟨v1,hv1,hh⟩:=bind_some hh
 refine ys (.call 95 [(.t 12)]) (some 13) (oc (impl_MemOk_fn hv1) ?_)
 refine yu 2 [(13,bb v1),(14,bb (!v1)),(15,bb (!v1))] [] 0 ?_
 rcases cond_some hh with ⟨hb,hh⟩ | ⟨hb,hh⟩
 · exact yb 14 hb (yb 15 hb (yt (sp 48 [z1,z2,z4,z6,z7,(24,bb true)]) [] 0 (cT rfl (sy [10] [] (sp 48 [z3]) [] 0 (Aw.ret (then_r (gvis hh)))))))
 refine yb 14 hb (yb 15 hb (yu 1 [(14,bb false),(15,bb false),(16,ii x_root)] [] 0 ?_))
 obtain ⟨v2,hv2,hh⟩:=bind_some hh
 refine yg (.call 96 [(.t 16)]) (some 17) 15 false (oc (impl_rootOk_fn hv2) ?_)
 refine yu 3 [(17,bb v2),(18,bb (!v2)),(19,bb (!v2)),(20,bb (!v2))] [] 0 ?_
 rcases cond_some hh with ⟨hb,hh⟩ | ⟨hb,hh⟩
 · exact yb 18 hb (yb 19 hb (yb 20 hb (yt (sp 48 [z1,z2,z4,z6,z7,(24,bb true)]) [] 0 (cT rfl (sy [10] [] (sp 48 [z3]) [] 0 (Aw.ret (then_r (gvis hh))))))))
 refine yb 18 hb (yb 19 hb (yb 20 hb (yu 1 [(18,bb false),(19,bb false),(20,bb false),(21,ii x_addr)] [] 0 ?_)))
 obtain ⟨v3,hv3,hh⟩:=bind_some hh
 refine yg (.call 91 [(.t 21)]) (some 22) 20 false (oc (impl_addressOk_fn hv3) ?_)
 refine yt (sp 48 [z1,z2,z4,z6,z7,(24,bb (!v3))]) [] 0 ?_
 rcases cond_some hh with ⟨hb,hh⟩ | ⟨hb,hh⟩
 · exact cT hb (sy [10] [] (sp 48 [z3]) [] 0 (Aw.ret (then_r (gvis hh))))
 refine cF hb (Aw.xskip (fun _ _ _ hq=>then_m hq) (Aw.seq (sy [0,1,2,3,4,26] [] (sp 48 [z1,z2,z4,z6,z7,z5]) [] 0 ?_)))
 rcases cond_some hh with ⟨hb,hh⟩ | ⟨hb,hh⟩
 · exact cT hb (sy [10] [] (sp 48 [(10,ii x_addr)]) [] 0 (Aw.ret (then_r (gvis hh))))
 refine cF hb (Aw.xskip (fun _ _ _ hq=>then_m hq) (Aw.sreg [2,3,4,11] [0] (yjc 6 [(8:Int)≠0] (sp 48 [z1,z2,z4,z6,z7,z5,(28,bo (eI .i64) x_mem),(29,ii x_root),(30,ii (w64 (x_root*(8:Int)))),(31,ii x_addr),(32,ii (w64 (Int.tdiv x_addr (8:Int)))),(33,ii (w64 ((w64 (x_root*(8:Int)))+(w64 (Int.tdiv x_addr (8:Int))))))]) [] 0 (.cons dd .nil) ?_)))
 obtain ⟨hg2,hh⟩:=grd_some hh
 refine ys (.iadr 1 (.t 28) (.t 33)) (some 34) (op_iadr (kd:=.i64) (c:=(eI .i64)) (xs:=x_mem) len_eI dd kr kr hg2 ?_)
 refine ys (.load false 1 (.t 34)) (some 35) (op_loadb (c:=(eI .i64)) (xs:=x_mem) (o:=Int.toNat (w64 ((w64 (x_root*(8:Int)))+(w64 (Int.tdiv x_addr (8:Int)))))*1) (i:=(Int.toNat (w64 ((w64 (x_root*(8:Int)))+(w64 (Int.tdiv x_addr (8:Int))))))) (off:=0) (v:=ii (List.getD x_mem (Int.toNat (w64 ((w64 (x_root*(8:Int)))+(w64 (Int.tdiv x_addr (8:Int)))))) default)) len_eI kr ltn ltn dd kr ?_)
 obtain ⟨v4,hv4,hh⟩:=bind_some hh
 let z8:EH:=(0,some ⟨111,(C_111 v4)⟩)
 refine ys (.call 97 [(.t 35)]) (some 36) (oc (impl_EntryFrom_fn hv4) ?_)
 refine yt (sp 48 [z4,z6,z7,(11,pp 0)]) [z8] 1 (Aw.seq (Aw.sreg [2,11,41] [0] (yj 3  (sp 48 [z4,z6,z7,(11,pp 0),(37,.agg (C_111 v4)),(38,bb x_user),(39,bb x_write)]) [z8] 1 ?_)))
 obtain ⟨v5,hv5,hh⟩:=bind_some hh
 refine ys (.call 98 [(.t 37),(.t 38),(.t 39)]) (some 40) (oc (impl_entryLets_fn hv5) ?_)
 refine yt (sp 48 [z4,(11,pp 0),(41,bb (!v5))]) [z8] 1 ?_
 rcases cond_some hh with ⟨hb,hh⟩ | ⟨hb,hh⟩
 · exact cT hb (sy [10] [] (sp 48 [z3]) [] 1 (Aw.ret (then_r (gvis hh))))
 exact cF hb (Aw.xskip (fun _ _ _ hq=>then_m hq) (Aw.sreg [10] [] (ytc [(8:Int)≠0] (sp 48 [(10,ii (w64 ((w64 (v4.Page*(8:Int)))+(Int.tmod x_addr (8:Int)))))]) [] 1 (.cons dd .nil) (Aw.ret (gvis hh)))))
def Lf5_r0:List LOper:=[oF 2]
def Lf5_r1:List LOper:=[om 15 0,oH 16 15,ob 17 .gtr 16 1048576]
def Lf5_r2:List LOper:=[oT 2]
def Lf5_r3:List LOper:=[om 19 0,oK 20 29 [19],om 18 20,oE 21 18 0,oE 22 18 1,oE 23 18 2,oE 24 18 3,oE 25 18 4,oo 3 (.fresh 26 [.nil,.nil]),oS 2 3 21,om 4 22,om 5 23,om 6 24,om 7 25]
def Lf5_r4:List LOper:=[oL 27 2 3,om 28 4,om 29 5,om 30 6,om 31 7,oK 32 30 [27,28,29,30,31],om 26 32,oE 33 26 0,oE 34 26 1,om 8 33,om 9 34]
def Lf5_r5:List LOper:=[oL 36 2 3,om 37 4,om 38 5,om 39 6,om 40 7,oK 41 31 [36,37,38,39,40],om 35 41,oE 42 35 0,oE 43 35 1,om 10 42,om 11 43]
def Lf5_r6:List LOper:=[om 44 8,om 45 10,oB 46 .neq 44 45,om 47 46,og 48 (.mv (.t 9)) 47 false,og 49 (.mv (.t 11)) 47 false,og 50 (.bin .neq (.t 48) (.t 49)) 47 false,oQ 51 47 50]
def Lf5_r7:List LOper:=[oF 2]
def Lf5_r8:List LOper:=[oL 53 2 3,om 54 4,oK 55 22 [53,54],om 52 55,oE 56 52 0,oE 57 52 1,oo 12 (.fresh 30 zc1),oS 16 12 56,om 13 57]
def Lf5_r9:List LOper:=[om 58 13,oU 59 58,om 60 59,og 61 (.mv (.t 5)) 60 false,og 62 (.bin .gtr (.t 61) (.c (ii 63))) 60 false,oQ 63 60 62]
def Lf5_r10:List LOper:=[om 64 9,ob 65 .eql 64 (-1),om 66 65,og 67 (.call 21 []) 66 true,oP 68 66 67,om 2 68]
def Lf5_r11:List LOper:=[oA 69 13 12,ol 70 69,oH 71 70,ob 72 .neq 71 64]
def Lf5_r12:List LOper:=[oF 2]
def Lf5_r13:List LOper:=[oA 73 13 12,ol 74 73,oA 75 0 12,oA 76 2 75,ol 77 76,om 78 5,om 79 6,om 80 7,oK 81 32 [74,77,78,79,80],om 14 81]
def Lf5_r14:List LOper:=[om 82 14,oA 83 13 12,ol 84 83,oH 85 84,oB 86 .geq 82 85,om 87 86,og 88 (.mv (.t 8)) 87 false,og 89 (.fadr 0 (.t 3)) 87 false,og 90 (.load false 1 (.t 89)) 87 false,og 91 (.len (.t 90)) 87 false,og 92 (.bin .geq (.t 88) (.t 91)) 87 false,oQ 93 87 92]
def Lf5_r15:List LOper:=[oF 2]
def Lf5_r16:List LOper:=[om 94 9,ob 95 .eql 94 1,om 96 14,ob 97 .eql 96 (-1),oo 98 (.binb true (.t 95) (.t 97)),om 99 98,og 100 (.mv (.t 8)) 99 false,og 101 (.bin .geq (.t 100) (.c (ii 0))) 99 false,og 102 (.mv (.t 9)) 99 false,og 103 (.bin .eql (.t 102) (.c (ii 0))) 99 false,og 104 (.binb true (.t 101) (.t 103)) 99 false,oQ 105 99 104]
def Lf5_r17:List LOper:=[oF 2]
def Lf5_r18:List LOper:=[om 106 8,ob 107 .lss 106 0,om 108 107,og 109 (.fadr 0 (.t 3)) 108 false,og 110 (.load false 1 (.t 109)) 108 false,og 111 (.mv (.t 8)) 108 false,og 112 (.iadr 1 (.t 110) (.t 111)) 108 false,og 113 (.load false 1 (.t 112)) 108 false,og 114 (.fadr 13 (.t 12)) 108 false,og 115 (.load false 1 (.t 114)) 108 false,og 116 (.mv (.t 14)) 108 false,og 117 (.iadr 1 (.t 115) (.t 116)) 108 false,og 118 (.load false 1 (.t 117)) 108 false,og 119 (.bin .eql (.t 113) (.t 118)) 108 false,og 120 (.mv (.t 119)) 108 false,og 121 (.fadr 1 (.t 3)) 120 true,og 122 (.load false 1 (.t 121)) 120 true,og 123 (.mv (.t 4)) 120 true,og 124 (.iadr 17 (.t 122) (.t 123)) 120 true,og 125 (.fadr 14 (.t 124)) 120 true,og 126 (.load false 1 (.t 125)) 120 true,og 127 (.mv (.t 14)) 120 true,og 128 (.bin .quo (.t 127) (.c (ii 8))) 120 true,og 129 (.iadr 3 (.t 126) (.t 128)) 120 true,og 130 (.fadr 0 (.t 129)) 120 true,og 131 (.load false 1 (.t 130)) 120 true,og 132 (.mv (.t 8)) 120 true,og 133 (.bin .quo (.t 132) (.c (ii 8))) 120 true]
def Lf5_r18t:List LOper:=[og 134 (.bin .eql (.t 131) (.t 133)) 120 true,og 135 (.pick (.t 120) (.t 134) (.c (bb false))) 108 false,oQ 136 108 135,om 137 136,og 138 (.call 21 []) 137 true,oP 139 137 138,om 2 139]
def Lf5:LFun:=⟨140,[(.tmp 2)],(.seq (.reg false Lf5_r0) (.seq (.seq (.reg false Lf5_r1) (.cond (.t 17) (.seq (.reg false Lf5_r2) .ret) .skip)) (.seq (.reg false Lf5_r3) (.seq (.reg false Lf5_r4) (.seq (.reg false Lf5_r5) (.seq (.seq (.reg false Lf5_r6) (.cond (.t 51) (.seq (.reg false Lf5_r7) .ret) .skip)) (.seq (.reg false Lf5_r8) (.seq (.seq (.reg false Lf5_r9) (.cond (.t 63) (.seq (.reg false Lf5_r10) .ret) .skip)) (.seq (.seq (.reg false Lf5_r11) (.cond (.t 72) (.seq (.reg false Lf5_r12) .ret) .skip)) (.seq (.reg false Lf5_r13) (.seq (.seq (.reg false Lf5_r14) (.cond (.t 93) (.seq (.reg false Lf5_r15) .ret) .skip)) (.seq (.seq (.reg false Lf5_r16) (.cond (.t 105) (.seq (.reg false Lf5_r17) .ret) .skip)) (.seq (.regd Lf5_r18 Lf5_r18t) .ret)))))))))))))⟩
theorem low_laws_FnShadowWalk:lowFun Go.Proofs.Try.prog 5=some Lf5:=by kernel_rfl
noncomputable def F_laws_FnShadowWalk (x_code:List Int):Option Bool :=
 cond (decide ((1048576:Int)<(((List.length x_code):Nat):Int)))
  (some true)
  (Option.bind (F_spec_DrawShadowWalk x_code) fun v1 =>
  Option.bind (F_impl_ShadowWalk v1.1 v1.2.1 v1.2.2.1 v1.2.2.2.1 v1.2.2.2.2) fun v2 =>
  Option.bind (F_spec_ShadowWalk v1.1 v1.2.1 v1.2.2.1 v1.2.2.2.1 v1.2.2.2.2) fun v3 =>
  cond (!decide (v2.1=v3.1))
   (some false)
   (cond (!decide (v2.2=v3.2))
    (some false)
    (Option.bind (F_impl_HostView v1.1 v1.2.1) fun v4 =>
    cond (!v4.2)
     (cond (decide (v2.2=(-1:Int)))
      (Option.bind (F_laws_alive ) fun v5 =>
      some v5)
      (some false))
     (cond (decide ((63:Int)<v1.2.2.1))
      (cond (decide (v2.2=(-1:Int)))
       (Option.bind (F_laws_alive ) fun v6 =>
       some v6)
       (some false))
      (cond (!decide ((((List.length v4.1.Mem):Nat):Int)=(64:Int)))
       (some false)
       (Option.bind (F_impl_Walk v4.1.Mem v4.1.C.Root v1.2.2.1 v1.2.2.2.1 v1.2.2.2.2) fun v7 =>
       cond (decide ((((List.length v4.1.Mem):Nat):Int)≤v7))
        (some false)
        (cond (decide ((((List.length v1.1.Words):Nat):Int)≤v2.1))
         (some false)
         (cond (!((decide (v2.2=(1:Int))) == (decide (v7=(-1:Int)))))
          (some false)
          (cond (!((decide ((0:Int)≤v2.1)) == (decide (v2.2=(0:Int)))))
           (some false)
           (cond (decide (v2.1<(0:Int)))
            (Option.bind (F_laws_alive ) fun v8 =>
            some v8)
            (grd ((0:Int)≤v2.1∧v2.1<(((List.length v1.1.Words):Nat):Int)) (grd ((0:Int)≤v7∧v7<(((List.length v4.1.Mem):Nat):Int)) (cond (decide ((List.getD v1.1.Words (Int.toNat v2.1) default)=(List.getD v4.1.Mem (Int.toNat v7) default)))
             (grd ((0:Int)≤v1.2.1∧v1.2.1<(((List.length v1.1.Guests):Nat):Int)) (grd ((0:Int)≤(w64 (Int.tdiv v7 (8:Int)))∧(w64 (Int.tdiv v7 (8:Int)))<(((List.length ((List.getD v1.1.Guests (Int.toNat v1.2.1) default).Pages)):Nat):Int)) (cond (decide (((List.getD ((List.getD v1.1.Guests (Int.toNat v1.2.1) default).Pages) (Int.toNat (w64 (Int.tdiv v7 (8:Int)))) default).Frame)=(w64 (Int.tdiv v2.1 (8:Int)))))
              (Option.bind (F_laws_alive ) fun v9 =>
              some v9)
              (some false))))
             (some false))))))))))))))
theorem laws_FnShadowWalk_fn {x_code:List Int} {R_:Bool} (hh:F_laws_FnShadowWalk x_code=some R_):Fn Try.prog 5 [bo (eI .u8) x_code] (.bool R_):=by
 let z10:=(0,bo (eI .u8) x_code); let z11:=(107,bb false); let z12:=(108,bb false); let z13:=(109,pp 2); let z14:EV:=(114,.ptr 7 [] 13); let z15:=(119,bb true); let z16:=(12,pp 7); let z17:=(120,bb true); let z18:EV:=(121,.ptr 2 [] 1); let z19:=(17,bb (decide ((1048576:Int)<(((List.length x_code):Nat):Int)))); let z20:=(2,bb false); let z21:=(3,pp 2); let z1:=List.drop 13 Lf5_r18; let z2:=List.drop 15 Lf5_r18; let z3:=List.drop 21 Lf5_r18; let z4:=List.drop 3 Lf5_r18; let z5:=List.drop 8 Lf5_r18
 unfold F_laws_FnShadowWalk at hh
 refine Fn.start low_laws_FnShadowWalk [0] (E:=sp 140 [z10]) kr (v:=bb R_) (Hr:=[]) (k:=0) kr (sy [0] [] (sp 140 [z10]) [] 0 (Aw.seq (sy [0,17] [] (sp 140 [z10,z19]) [] 0 ?_)))
 rcases cond_some hh with ⟨hb,hh⟩ | ⟨hb,hh⟩
 · exact cT hb (sy [2] [] (sp 140 [(2,bb true)]) [] 0 (Aw.ret (then_r (gvbs hh))))
 refine cF hb (Aw.xskip (fun _ _ _ hq=>then_m hq) (Aw.sreg [3,4,5,6,7] [0,1,2] (yj 1  (sp 140 [z10,z19,(19,bo (eI .u8) x_code)]) [] 0 ?_)))
 obtain ⟨v1,hv1,hh⟩:=bind_some hh
 let z22:=(110,sw 0 v1.1.Words); let z23:EV:=(122,.sref 1 [] 0 (List.length v1.1.Guests) 17); let z24:=(123,ii v1.2.1); let z25:EV:=(124,.ptr 1 [] (0+(Int.toNat v1.2.1)*17)); let z26:EV:=(125,.ptr 1 [] (0+(Int.toNat v1.2.1)*17+14)); let z27:=(4,ii v1.2.1); let z28:=(5,ii v1.2.2.1); let z29:=(6,bb v1.2.2.2.1); let z30:=(7,bb v1.2.2.2.2); let z6:=List.getD v1.1.Guests (Int.toNat v1.2.1) default; let z31:EV:=(126,.sref 1 [0+(Int.toNat v1.2.1)*17+14+0] 0 (List.length (z6.Pages)) 3); let q1:Root:=⟨53,(fl O_53 v1.1.Guests)⟩; let z32:=(1,some q1); let q2:Root:=⟨3,(fl (eI .i64) v1.1.Words)⟩; let z33:=(0,some q2)
 refine ys (.call 29 [(.t 19)]) (some 20) (op_call (r:=.tup [.agg [.own 3 1 (List.length v1.1.Words) (fl (eI .i64) v1.1.Words),.own 53 17 (List.length v1.1.Guests) (fl O_53 v1.1.Guests)],ii v1.2.1,ii v1.2.2.1,bb v1.2.2.2.1,bb v1.2.2.2.2]) (v:=.tup [.agg [sw 0 v1.1.Words,.sref 1 [] 0 (List.length v1.1.Guests) 17],ii v1.2.1,ii v1.2.2.1,bb v1.2.2.2.1,bb v1.2.2.2.2]) (Hr:=[z32,z33]) (n':=2) (spec_DrawShadowWalk_fn hv1) (clz_v (vs:=[bo (eI .u8) x_code]) kr (clz_c (clo_same (clean_bor (cleans_fl cl_eI))) clz_n)) (by simp only [AV.noRef,noRefs,Bool.and_self,noRefs_fl nr_eI,noRefs_fl nr_O_53]) (by simp only [AV.noBor,noBors,Bool.and_self,noBors_fl nb_eI,noBors_fl nb_O_53]) kr ?_)
 let q3:Root:=⟨26,[sw 0 v1.1.Words,.sref 1 [] 0 (List.length v1.1.Guests) 17]⟩; let z34:=(2,some q3)
 refine yt (sp 140 [z21,z27,z28,z29,z30]) [z33,z32,z34] 3 (Aw.sreg [3,4,5,6,7,8,9] [0,1,2] (yu 5 [(27,.agg [sw 0 v1.1.Words,.sref 1 [] 0 (List.length v1.1.Guests) 17]),(28,ii v1.2.1),(29,ii v1.2.2.1),(30,bb v1.2.2.2.1),(31,bb v1.2.2.2.2)] [z33,z32,z34] 3 ?_))
 obtain ⟨v2,hv2,hh⟩:=bind_some hh
 let z35:=(105,bb (!((decide ((0:Int)≤v2.1)) == (decide (v2.2=(0:Int)))))); let z36:=(106,ii v2.1); let z37:=(111,ii v2.1); let z38:EV:=(112,.ptr 0 [] (0+(Int.toNat v2.1)*1)); let z39:=(133,ii (w64 (Int.tdiv v2.1 (8:Int)))); let z40:=(65,bb (decide (v2.2=(-1:Int)))); let z41:=(66,bb (decide (v2.2=(-1:Int)))); let z42:=(8,ii v2.1); let z43:=(9,ii v2.2); let z44:=(93,bb (decide ((((List.length v1.1.Words):Nat):Int)≤v2.1))); let z7:=List.getD v1.1.Words (Int.toNat v2.1) default; let z45:=(113,ii z7)
 refine ys (.call 30 [(.t 27),(.t 28),(.t 29),(.t 30),(.t 31)]) (some 32) (op_call (r:=.tup [ii v2.1,ii v2.2]) (v:=.tup [ii v2.1,ii v2.2]) (Hr:=[]) (n':=3) (impl_ShadowWalk_fn hv2) (clz_v (vs:=[.agg [sw 0 v1.1.Words,.sref 1 [] 0 (List.length v1.1.Guests) 17],ii v1.2.1,ii v1.2.2.1,bb v1.2.2.2.1,bb v1.2.2.2.2]) kr (clz_c (clo_agg (clos_c (clo_own (c:=(eI .i64)) (xs:=v1.1.Words) (e:=3) eqn len_eI no_eI cl_eI kr) (clos_c (clo_flr (B:=B_53) (xs:=v1.1.Guests) (e:=53) oc_O_53 len_O_53 eqn kr) clos_n))) (cz1 (cz1 (cz1 (cz1 clz_n)))))) rfl rfl kr ?_)
 refine yt (sp 140 [z21,z27,z28,z29,z30,z42,z43]) [z33,z32,z34] 3 (Aw.sreg [3,4,5,6,7,8,9,10,11] [0,1,2] (yu 5 [(36,.agg [sw 0 v1.1.Words,.sref 1 [] 0 (List.length v1.1.Guests) 17]),(37,ii v1.2.1),(38,ii v1.2.2.1),(39,bb v1.2.2.2.1),(40,bb v1.2.2.2.2)] [z33,z32,z34] 3 ?_))
 obtain ⟨v3,hv3,hh⟩:=bind_some hh
 let z46:=(51,bb (!decide (v2.2=v3.2)))
 refine ys (.call 31 [(.t 36),(.t 37),(.t 38),(.t 39),(.t 40)]) (some 41) (op_call (r:=.tup [ii v3.1,ii v3.2]) (v:=.tup [ii v3.1,ii v3.2]) (Hr:=[]) (n':=3) (spec_ShadowWalk_fn hv3) (clz_v (vs:=[.agg [sw 0 v1.1.Words,.sref 1 [] 0 (List.length v1.1.Guests) 17],ii v1.2.1,ii v1.2.2.1,bb v1.2.2.2.1,bb v1.2.2.2.2]) kr (clz_c (clo_agg (clos_c (clo_own (c:=(eI .i64)) (xs:=v1.1.Words) (e:=3) eqn len_eI no_eI cl_eI kr) (clos_c (clo_flr (B:=B_53) (xs:=v1.1.Guests) (e:=53) oc_O_53 len_O_53 eqn kr) clos_n))) (cz1 (cz1 (cz1 (cz1 clz_n)))))) rfl rfl kr ?_)
 refine yt (sp 140 [z21,z27,z28,z29,z30,z42,z43,(10,ii v3.1),(11,ii v3.2)]) [z33,z32,z34] 3 (Aw.seq (Aw.sreg [3,4,5,6,7,8,9,51] [0,1,2] (yj 4  (sp 140 [z21,z27,z28,z29,z30,z42,z43,(10,ii v3.1),(11,ii v3.2),(44,ii v2.1),(45,ii v3.1),(46,bb (!decide (v2.1=v3.1))),(47,bb (!decide (v2.1=v3.1)))]) [z33,z32,z34] 3 ?_)))
 rcases cond_some hh with ⟨hb,hh⟩ | ⟨hb,hh⟩
 · exact yb 46 hb (yb 47 hb (yt (sp 140 [z21,z27,z28,z29,z30,z42,z43,(51,bb true)]) [z33,z32,z34] 3 (cT rfl (sy [2] [] (sp 140 [z20]) [] 3 (Aw.ret (then_r (gvbs hh)))))))
 refine yb 46 hb (yb 47 hb (yt (sp 140 [z21,z27,z28,z29,z30,z42,z43,z46]) [z33,z32,z34] 3 ?_))
 rcases cond_some hh with ⟨hb,hh⟩ | ⟨hb,hh⟩
 · exact cT hb (sy [2] [] (sp 140 [z20]) [] 3 (Aw.ret (then_r (gvbs hh))))
 refine cF hb (Aw.xskip (fun _ _ _ hq=>then_m hq) (Aw.sreg [3,4,5,6,7,8,9,12,13] [0,1,2,3,4,5,6,7] (yj 2  (sp 140 [z21,z27,z28,z29,z30,z42,z43,z46,(53,.agg [sw 0 v1.1.Words,.sref 1 [] 0 (List.length v1.1.Guests) 17]),(54,ii v1.2.1)]) [z33,z32,z34] 3 ?_)))
 obtain ⟨v4,hv4,hh⟩:=bind_some hh
 let z47:=(115,sw 4 v4.1.Mem); let z48:=(72,bb (!decide ((((List.length v4.1.Mem):Nat):Int)=(64:Int)))); let q4:Root:=⟨3,(fl (eI .i64) v4.1.Out)⟩; let z49:=(6,some q4); let q5:Root:=⟨3,(fl (eI .i64) v4.1.In)⟩; let z50:=(5,some q5); let q6:Root:=⟨3,(fl (eI .i64) v4.1.Mem)⟩; let z51:=(4,some q6); let q7:Root:=⟨3,(fl (eI .i64) v4.1.C.Regs)⟩; let z52:=(3,some q7)
 refine ys (.call 22 [(.t 53),(.t 54)]) (some 55) (op_call (r:=.tup [.agg (.own 3 1 (List.length v4.1.C.Regs) (fl (eI .i64) v4.1.C.Regs)::ru28 v4.1.C [.own 3 1 (List.length v4.1.Mem) (fl (eI .i64) v4.1.Mem),.own 3 1 (List.length v4.1.In) (fl (eI .i64) v4.1.In),.own 3 1 (List.length v4.1.Out) (fl (eI .i64) v4.1.Out)]),bb v4.2]) (v:=.tup [.agg (sw 3 v4.1.C.Regs::ru28 v4.1.C [sw 4 v4.1.Mem,sw 5 v4.1.In,sw 6 v4.1.Out]),bb v4.2]) (Hr:=[z49,z50,z51,z52]) (n':=7) (impl_HostView_fn hv4) (clz_v (vs:=[.agg [sw 0 v1.1.Words,.sref 1 [] 0 (List.length v1.1.Guests) 17],ii v1.2.1]) kr (clz_c (clo_agg (clos_c (clo_own (c:=(eI .i64)) (xs:=v1.1.Words) (e:=3) eqn len_eI no_eI cl_eI kr) (clos_c (clo_flr (B:=B_53) (xs:=v1.1.Guests) (e:=53) oc_O_53 len_O_53 eqn kr) clos_n))) (cz1 clz_n))) (by simp only [ru28,AV.noRef,noRefs,Bool.and_self,noRefs_fl nr_eI]) (by simp only [ru28,AV.noBor,noBors,Bool.and_self,noBors_fl nb_eI]) kr ?_)
 let q8:Root:=⟨30,(sw 3 v4.1.C.Regs::ru28 v4.1.C [sw 4 v4.1.Mem,sw 5 v4.1.In,sw 6 v4.1.Out])⟩; let z53:=(7,some q8)
 refine yt (sp 140 [z21,z27,z28,z29,z30,z42,z43,z16,(13,bb v4.2)]) [z33,z32,z34,z52,z51,z50,z49,z53] 8 (Aw.seq (Aw.sreg [3,4,5,6,7,8,9,12,63] [0,1,2,3,4,5,6,7] (yj 3  (sp 140 [z21,z27,z28,z29,z30,z42,z43,z16,(13,bb v4.2),(58,bb v4.2),(59,bb (!v4.2)),(60,bb (!v4.2))]) [z33,z32,z34,z52,z51,z50,z49,z53] 8 ?_)))
 rcases cond_some hh with ⟨hb,hh⟩ | ⟨hb,hh⟩
 · refine yb 59 hb (yb 60 hb (yt (sp 140 [z21,z27,z28,z29,z30,z42,z43,z16,(63,bb true)]) [z33,z32,z34,z52,z51,z50,z49,z53] 8 (cT rfl (Aw.sreg [2] [] (yu 3 [(64,ii v2.2),z40,z41] [z33,z32,z34,z52,z51,z50,z49,z53] 8 ?_)))))
   rcases cond_sf hh with ⟨hb,hh⟩ | ⟨hb,hh⟩
   · exact yb 65 hb (yb 66 hb (yt (sp 140 [z20]) [] 8 (Aw.ret (then_r (gvbs hh)))))
   refine yb 65 hb (yb 66 hb ?_)
   obtain ⟨v5,hv5,hh⟩:=bind_some hh
   refine yg (.call 21 []) (some 67) 66 true (oc (laws_alive_fn hv5) ?_)
   exact yt (sp 140 [(2,bb v5)]) [] 8 (Aw.ret (then_r (gvbs hh)))
 refine yb 59 hb (yb 60 hb (yt (sp 140 [z21,z27,z28,z29,z30,z42,z43,z16,(63,bb (decide ((63:Int)<v1.2.2.1)))]) [z33,z32,z34,z52,z51,z50,z49,z53] 8 ?_))
 rcases cond_some hh with ⟨hb,hh⟩ | ⟨hb,hh⟩
 · refine cT hb (Aw.sreg [2] [] (yu 3 [(64,ii v2.2),z40,z41] [z33,z32,z34,z52,z51,z50,z49,z53] 8 ?_))
   rcases cond_sf hh with ⟨hb,hh⟩ | ⟨hb,hh⟩
   · exact yb 65 hb (yb 66 hb (yt (sp 140 [z20]) [] 8 (Aw.ret (then_r (gvbs hh)))))
   refine yb 65 hb (yb 66 hb ?_)
   obtain ⟨v6,hv6,hh⟩:=bind_some hh
   refine yg (.call 21 []) (some 67) 66 true (oc (laws_alive_fn hv6) ?_)
   exact yt (sp 140 [(2,bb v6)]) [] 8 (Aw.ret (then_r (gvbs hh)))
 refine cF hb (Aw.xskip (fun _ _ _ hq=>then_m hq) (Aw.seq (sy [3,4,5,6,7,8,9,12,72] [0,1,2,3,4,5,6,7] (sp 140 [z21,z27,z28,z29,z30,z42,z43,z16,z48]) [z33,z32,z34,z52,z51,z50,z49,z53] 8 ?_)))
 rcases cond_some hh with ⟨hb,hh⟩ | ⟨hb,hh⟩
 · exact cT hb (sy [2] [] (sp 140 [z20]) [] 8 (Aw.ret (then_r (gvbs hh))))
 refine cF hb (Aw.xskip (fun _ _ _ hq=>then_m hq) (Aw.sreg [3,4,8,9,12,14] [0,1,2,3,4,5,6,7] (yj 8  (sp 140 [z21,z27,z28,z29,z30,z42,z43,z16,z48,(73,.ptr 7 [] 13),(74,sw 4 v4.1.Mem),(75,pp 7),(76,.ptr 7 [] 2),(77,ii v4.1.C.Root),(78,ii v1.2.2.1),(79,bb v1.2.2.2.1),(80,bb v1.2.2.2.2)]) [z33,z32,z34,z52,z51,z50,z49,z53] 8 ?_)))
 obtain ⟨v7,hv7,hh⟩:=bind_some hh
 let z54:=(116,ii v7); let z55:EV:=(117,.ptr 4 [] (0+(Int.toNat v7)*1)); let z56:=(128,ii (w64 (Int.tdiv v7 (8:Int)))); let z57:EV:=(129,.ptr 1 [0+(Int.toNat v1.2.1)*17+14+0] (0+(Int.toNat (w64 (Int.tdiv v7 (8:Int))))*3)); let z58:EV:=(130,.ptr 1 [0+(Int.toNat v1.2.1)*17+14+0] (0+(Int.toNat (w64 (Int.tdiv v7 (8:Int))))*3+0)); let z59:=(14,ii v7); let z9:=List.getD (z6.Pages) (Int.toNat (w64 (Int.tdiv v7 (8:Int)))) default; let z8:=List.getD v4.1.Mem (Int.toNat v7) default; let z60:=(118,ii z8)
 refine ys (.call 32 [(.t 74),(.t 77),(.t 78),(.t 79),(.t 80)]) (some 81) (op_call (r:=ii v7) (v:=ii v7) (Hr:=[]) (n':=8) (impl_Walk_fn hv7) (clz_v (vs:=[sw 4 v4.1.Mem,ii v4.1.C.Root,ii v1.2.2.1,bb v1.2.2.2.1,bb v1.2.2.2.2]) kr (clz_c (clo_own (c:=(eI .i64)) (xs:=v4.1.Mem) (e:=3) eqn len_eI no_eI cl_eI kr) (cz1 (cz1 (cz1 (cz1 clz_n)))))) rfl rfl kr ?_)
 refine yt (sp 140 [z21,z27,z42,z43,z16,z59]) [z33,z32,z34,z52,z51,z50,z49,z53] 8 (Aw.seq (Aw.sreg [3,4,8,9,12,14,93] [0,1,2,3,4,5,6,7] (yj 6  (sp 140 [z21,z27,z42,z43,z16,z59,(82,ii v7),(83,.ptr 7 [] 13),(84,sw 4 v4.1.Mem),(85,ii (((List.length v4.1.Mem):Nat):Int)),(86,bb (decide ((((List.length v4.1.Mem):Nat):Int)≤v7))),(87,bb (decide ((((List.length v4.1.Mem):Nat):Int)≤v7)))]) [z33,z32,z34,z52,z51,z50,z49,z53] 8 ?_)))
 rcases cond_some hh with ⟨hb,hh⟩ | ⟨hb,hh⟩
 · exact yb 86 hb (yb 87 hb (yt (sp 140 [z21,z27,z42,z43,z16,z59,(93,bb true)]) [z33,z32,z34,z52,z51,z50,z49,z53] 8 (cT rfl (sy [2] [] (sp 140 [z20]) [] 8 (Aw.ret (then_r (gvbs hh)))))))
 refine yb 86 hb (yb 87 hb (yt (sp 140 [z21,z27,z42,z43,z16,z59,z44]) [z33,z32,z34,z52,z51,z50,z49,z53] 8 ?_))
 rcases cond_some hh with ⟨hb,hh⟩ | ⟨hb,hh⟩
 · exact cT hb (sy [2] [] (sp 140 [z20]) [] 8 (Aw.ret (then_r (gvbs hh))))
 refine cF hb (Aw.xskip (fun _ _ _ hq=>then_m hq) (Aw.seq (Aw.sreg [3,4,8,12,14,105] [0,1,2,3,4,5,6,7] (yj 6  (sp 140 [z21,z27,z42,z43,z16,z59,z44,(94,ii v2.2),(95,bb (decide (v2.2=(1:Int)))),(96,ii v7),(97,bb (decide (v7=(-1:Int)))),(98,bb (!((decide (v2.2=(1:Int))) == (decide (v7=(-1:Int)))))),(99,bb (!((decide (v2.2=(1:Int))) == (decide (v7=(-1:Int))))))]) [z33,z32,z34,z52,z51,z50,z49,z53] 8 ?_))))
 rcases cond_some hh with ⟨hb,hh⟩ | ⟨hb,hh⟩
 · exact yb 98 hb (yb 99 hb (yt (sp 140 [z21,z27,z42,z16,z59,(105,bb true)]) [z33,z32,z34,z52,z51,z50,z49,z53] 8 (cT rfl (sy [2] [] (sp 140 [z20]) [] 8 (Aw.ret (then_r (gvbs hh)))))))
 refine yb 98 hb (yb 99 hb (yt (sp 140 [z21,z27,z42,z16,z59,z35]) [z33,z32,z34,z52,z51,z50,z49,z53] 8 ?_))
 rcases cond_some hh with ⟨hb,hh⟩ | ⟨hb,hh⟩
 · exact cT hb (sy [2] [] (sp 140 [z20]) [] 8 (Aw.ret (then_r (gvbs hh))))
 refine cF hb (Aw.xskip (fun _ _ _ hq=>then_m hq) (Aw.sregd [2] [] [] kr (dc (cs:=[]) (E':=(sp 140 [z21,z27,z42,z16,z59,z35,z36,(107,bb (decide (v2.1<(0:Int)))),(108,bb (decide (v2.1<(0:Int))))])) (H':=[z33,z32,z34,z52,z51,z50,z49,z53]) (n':=8) (fs':=none) (pre:=(List.take 3 Lf5_r18)) (L':=z4) kr (fun K=>by kernel_rfl) .nil ?_)))
 rcases cond_some hh with ⟨hb,hh⟩ | ⟨hb,hh⟩
 · refine dbs (t:=107) hb kr (dbs (t:=108) hb kr (dct (cs:=[]) (E':=(sp 140 [z21,z27,z42,z16,z59,z35,z36,(107,bb true),(108,bb true),(109,.und),(110,.und),(111,.und),(112,.und),(113,.und),(114,.und),(115,.und),(116,.und),(117,.und),(118,.und),(119,.und),(120,.und),(121,.und),(122,.und),(123,.und),(124,.und),(125,.und),(126,.und),(127,.und),(128,.und),(129,.und),(130,.und),(131,.und),(132,.und),(133,.und)])) (H':=[z33,z32,z34,z52,z51,z50,z49,z53]) (n':=8) (fun K=>by kernel_rfl) .nil (yj 4  (sp 140 [z21,z27,z42,z16,z59,z35,z36,(107,bb true),(108,bb true),(109,.und),(110,.und),(111,.und),(112,.und),(113,.und),(114,.und),(115,.und),(116,.und),(117,.und),(118,.und),(119,.und),(120,.und),(121,.und),(122,.und),(123,.und),(124,.und),(125,.und),(126,.und),(127,.und),(128,.und),(129,.und),(130,.und),(131,.und),(132,.und),(133,.und),(134,.und),(135,.und),(136,bb true),(137,bb true)]) [z33,z32,z34,z52,z51,z50,z49,z53] 8 ?_)))
   obtain ⟨v8,hv8,hh⟩:=bind_some hh
   refine yg (.call 21 []) (some 138) 137 true (oc (laws_alive_fn hv8) ?_)
   exact yt (sp 140 [(2,bb v8)]) [] 8 (Aw.ret (gvbs hh))
 refine dbs (t:=107) hb kr (dbs (t:=108) hb kr ?_)
 obtain ⟨hg8,hh⟩:=grd_some hh
 refine dc (cs:=[(0:Int)≤v2.1∧v2.1<(((List.length v1.1.Words):Nat):Int)]) (E':=(sp 140 [z21,z27,z42,z16,z59,z35,z36,z11,z12,z13,z22,z37,z38])) (H':=[z33,z32,z34,z52,z51,z50,z49,z53]) (n':=8) (fs':=none) (pre:=(List.take 4 z4)) (L':=(List.drop 7 Lf5_r18)) kr (fun K=>by kernel_rfl) (.cons hg8 .nil) (dsg (op:=(.load false 1 (.t 112))) (d:=(some 113)) (t:=108) (want:=false) (os:=z5) kr kr rfl (ydo_q rfl kr (op_load (c:=(eI .i64)) (xs:=v1.1.Words) (e:=3) (r:=0) (π:=[]) (o:=0+(Int.toNat v2.1)*1) (i:=(Int.toNat v2.1)) (off:=0) (v:=ii z7) len_eI kr kr ltn ltn dd kr ?_)))
 obtain ⟨hg7,hh⟩:=grd_some hh
 refine dc (cs:=[(0:Int)≤v7∧v7<(((List.length v4.1.Mem):Nat):Int)]) (E':=(sp 140 [z21,z27,z42,z16,z59,z35,z36,z11,z12,z13,z22,z37,z38,z45,z14,z47,z54,z55])) (H':=[z33,z32,z34,z52,z51,z50,z49,z53]) (n':=8) (fs':=none) (pre:=(List.take 4 z5)) (L':=(List.drop 12 Lf5_r18)) kr (fun K=>by kernel_rfl) (.cons hg7 .nil) (dsg (op:=(.load false 1 (.t 117))) (d:=(some 118)) (t:=108) (want:=false) (os:=z1) kr kr rfl (ydo_q rfl kr (op_load (c:=(eI .i64)) (xs:=v4.1.Mem) (e:=3) (r:=4) (π:=[]) (o:=0+(Int.toNat v7)*1) (i:=(Int.toNat v7)) (off:=0) (v:=ii z8) len_eI kr kr ltn ltn dd kr ?_)))
 refine dc (cs:=[]) (E':=(sp 140 [z21,z27,z42,z16,z59,z35,z36,z11,z12,z13,z22,z37,z38,z45,z14,z47,z54,z55,z60,(119,bb (decide (z7=z8))),(120,bb (decide (z7=z8)))])) (H':=[z33,z32,z34,z52,z51,z50,z49,z53]) (n':=8) (fs':=none) (pre:=(List.take 2 z1)) (L':=z2) kr (fun K=>by kernel_rfl) .nil ?_
 rcases cond_sf hh with ⟨hb,hh⟩ | ⟨hb,hh⟩
 · exact dbs (t:=119) hb kr (dbs (t:=120) hb kr (dct (cs:=[]) (E':=(sp 140 [z21,z27,z42,z16,z59,z35,z36,z11,z12,z13,z22,z37,z38,z45,z14,z47,z54,z55,z60,(119,bb false),(120,bb false),(121,.und),(122,.und),(123,.und),(124,.und),(125,.und),(126,.und),(127,.und),(128,.und),(129,.und),(130,.und),(131,.und),(132,.und),(133,.und)])) (H':=[z33,z32,z34,z52,z51,z50,z49,z53]) (n':=8) (fun K=>by kernel_rfl) .nil (yt (sp 140 [z20]) [] 8 (Aw.ret (gvbs hh)))))
 refine dbs (t:=119) hb kr (dbs (t:=120) hb kr ?_)
 obtain ⟨hg6,hh⟩:=grd_some hh
 refine dc (cs:=[(0:Int)≤v1.2.1∧v1.2.1<(((List.length v1.1.Guests):Nat):Int)]) (E':=(sp 140 [z21,z27,z42,z16,z59,z35,z36,z11,z12,z13,z22,z37,z38,z45,z14,z47,z54,z55,z60,z15,z17,z18,z23,z24,z25,z26])) (H':=[z33,z32,z34,z52,z51,z50,z49,z53]) (n':=8) (fs':=none) (pre:=(List.take 5 z2)) (L':=(List.drop 20 Lf5_r18)) kr (fun K=>by kernel_rfl) (.cons hg6 .nil) (dsg (op:=(.load false 1 (.t 125))) (d:=(some 126)) (t:=120) (want:=true) (os:=z3) kr kr rfl (ydo_q rfl kr (op_load (c:=O_53) (xs:=v1.1.Guests) (e:=53) (r:=1) (π:=[]) (o:=0+(Int.toNat v1.2.1)*17+14) (i:=(Int.toNat v1.2.1)) (off:=14) (v:=.sref 1 [0+(Int.toNat v1.2.1)*17+14+0] 0 (List.length (z6.Pages)) 3) len_O_53 kr kr ltn ltn dd kr ?_)))
 obtain ⟨hg5,hh⟩:=grd_some hh
 refine dc (cs:=[(8:Int)≠0,(0:Int)≤(w64 (Int.tdiv v7 (8:Int)))∧(w64 (Int.tdiv v7 (8:Int)))<(((List.length (z6.Pages)):Nat):Int)]) (E':=(sp 140 [z21,z27,z42,z16,z59,z35,z36,z11,z12,z13,z22,z37,z38,z45,z14,z47,z54,z55,z60,z15,z17,z18,z23,z24,z25,z26,z31,(127,ii v7),z56,z57,z58])) (H':=[z33,z32,z34,z52,z51,z50,z49,z53]) (n':=8) (fs':=none) (pre:=(List.take 4 z3)) (L':=(List.drop 25 Lf5_r18)) kr (fun K=>by kernel_rfl) (.cons dd (.cons hg5 .nil)) (dsg (op:=(.load false 1 (.t 130))) (d:=(some 131)) (t:=120) (want:=true) (os:=(List.drop 26 Lf5_r18)) kr kr rfl (ydo_q rfl kr (op_load (c:=C_50) (xs:=z6.Pages) (e:=50) (r:=1) (π:=[0+(Int.toNat v1.2.1)*17+14+0]) (o:=0+(Int.toNat (w64 (Int.tdiv v7 (8:Int))))*3+0) (i:=(Int.toNat (w64 (Int.tdiv v7 (8:Int))))) (off:=0) (v:=ii (z9.Frame)) len_C_50 kr (get_fl (e:=53) (e':=50) (sz':=3) (m':=(List.length (z6.Pages))) (cs':=(fl C_50 (z6.Pages))) (c:=O_53) (xs:=v1.1.Guests) (i:=(Int.toNat v1.2.1)) (off:=14) len_O_53 kr ltn ltn dd rfl kr) ltn ltn dd kr ?_)))
 refine dct (cs:=[(8:Int)≠0]) (E':=(sp 140 [z21,z27,z42,z16,z59,z35,z36,z11,z12,z13,z22,z37,z38,z45,z14,z47,z54,z55,z60,z15,z17,z18,z23,z24,z25,z26,z31,(127,ii v7),z56,z57,z58,(131,ii (z9.Frame)),(132,ii v2.1),z39])) (H':=[z33,z32,z34,z52,z51,z50,z49,z53]) (n':=8) (fun K=>by kernel_rfl) (.cons dd .nil) (yj 4  (sp 140 [z21,z27,z42,z16,z59,z35,z36,z11,z12,z13,z22,z37,z38,z45,z14,z47,z54,z55,z60,z15,z17,z18,z23,z24,z25,z26,z31,(127,ii v7),z56,z57,z58,(131,ii (z9.Frame)),(132,ii v2.1),z39,(134,bb (decide ((z9.Frame)=(w64 (Int.tdiv v2.1 (8:Int)))))),(135,bb (decide ((z9.Frame)=(w64 (Int.tdiv v2.1 (8:Int)))))),(136,bb (decide ((z9.Frame)=(w64 (Int.tdiv v2.1 (8:Int)))))),(137,bb (decide ((z9.Frame)=(w64 (Int.tdiv v2.1 (8:Int))))))]) [z33,z32,z34,z52,z51,z50,z49,z53] 8 ?_)
 rcases cond_sf hh with ⟨hb,hh⟩ | ⟨hb,hh⟩
 · exact yb 134 hb (yb 135 hb (yb 136 hb (yb 137 hb (yt (sp 140 [z20]) [] 8 (Aw.ret (gvbs hh))))))
 refine yb 134 hb (yb 135 hb (yb 136 hb (yb 137 hb ?_)))
 obtain ⟨v9,hv9,hh⟩:=bind_some hh
 refine yg (.call 21 []) (some 138) 137 true (oc (laws_alive_fn hv9) ?_)
 exact yt (sp 140 [(2,bb v9)]) [] 8 (Aw.ret (gvbs hh))
end Go.Proofs.Ytlikfpmbcdlnjaa
