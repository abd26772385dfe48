/- Plain functions of the program, and that it hands back what they say. Made by program. -/
import Derived.Test.YtbanbjdcgdmkaaaWT
import Derived.Test.YtbanbjdcgdmkaaaProg
import Derived.Test.YtbanbjdcgdmkaaaWO1
namespace Go.Proofs.Ytbanbjdcgdmkaaa
open Go.RowKit
set_option maxRecDepth 100000
set_option linter.all false
set_option maxHeartbeats 0
theorem low_spec_l20Open:LW 47 ⟨11,[(.tmp 2)],(.seq (.reg false (rg 47 0)) (.seq (.seq (.reg false (rg 47 1)) (.cond (.t 5) (.reg false (rg 47 2)) .skip)) (.seq (.reg false (rg 47 3)) .ret)))⟩:=kr
noncomputable def F_spec_l20Open_j1  (s1:(List Int)):Option Dl20Rd :=
 some (Dl20Rd.mk s1 (0:Int))
noncomputable def F_spec_l20Open (x_code:List Int):Option Dl20Rd :=
 Option.bind (cond (decide ((2000:Int)<(((List.length x_code):Nat):Int)))
  (grd ((0:Int)≤(0:Int)∧(0:Int)≤(2000:Int)∧(2000:Int)≤((List.length x_code:Nat):Int)) (some (.go (List.take (Int.toNat (2000:Int) - Int.toNat (0:Int)) (List.drop (Int.toNat (0:Int)) x_code)))))
  (some (.go x_code))) fun j1 =>
  JO.run j1 (F_spec_l20Open_j1)
theorem spec_l20Open_fn {x_code:List Int} {R_:Dl20Rd} (hh:F_spec_l20Open x_code=some R_):Inl Try.prog 47 [bo (eI .u8) x_code] [] 0 (pp 0) [(0,some ⟨134,[bo (eI .u8) R_.b,.int .i64 R_.p]⟩)] 1:=by
 let z3:=(0,bo (eI .u8) x_code); let z4:=(5,bb (decide ((2000:Int)<(((List.length x_code):Nat):Int)))); let z1:=List.drop (Int.toNat (0:Int)) x_code; let z2:=List.take (Int.toNat (2000:Int) - Int.toNat (0:Int)) z1
 unfold F_spec_l20Open at hh
 refine Inl.start low_spec_l20Open [0] [] (E:=sp 11 [z3]) (H1:=[]) kr kr (sy [0] [] (sp 11 [z3]) [] 0 ?_)
 obtain ⟨j1,hh,hk1⟩:=bind_some hh
 refine Aw.join (S:=(List Int)) (fun s1=>sp 11 [(0,bo (eI .u8) s1)]) (fun s1=>[]) 0 (fun s1=>F_spec_l20Open_j1 s1=some R_) ?_ ?_
 · intro s1 hh
   unfold F_spec_l20Open_j1 at hh
   refine Aw.sreg [2] [0] ?_
   let q1:Root:=⟨134,[bo (eI .u8) s1,ii 0]⟩
   refine yt (sp 11 [(2,pp 0)]) [(0,some q1)] 1 (Aw.ret ?_)
   rw [some_some hh]
   exact gives (r':=pp 0) kr (el [some 0] (rens_1 (ren_p dd rfl)) (hq q1 rz hs_nil))
 intro Q1 hN1 hR1 hE1
 refine sy [0,5] [] (sp 11 [z3,z4]) [] 0 ?_
 rcases cond_sf hh with ⟨hb,hh⟩ | ⟨hb,hh⟩
 · refine cF hb (Aw.skip ?_)
   obtain rfl:=some_some hh
   exact hN1 x_code _ _ _ hk1 (el [] (rens_sp kr (ro nr_eI rl_n)) hs_nil)
 refine cT hb (Aw.oreg (yu 1 [(6,bo (eI .u8) x_code)] [] 0 ?_))
 obtain ⟨hg6,hh⟩:=grd_some hh
 refine ys (.slc 1 (.t 6) none (some (.c (ii 2000)))) (some 7) (op_slc (c:=(eI .u8)) (xs:=x_code) (l:=(0:Int)) (h:=(2000:Int)) len_eI kr kr kr hg6 ?_)
 refine ye (sp 11 [(0,bo (eI .u8) z2),z4,(6,bo (eI .u8) x_code),(7,bo (eI .u8) z2)]) [] 0 ?_
 obtain rfl:=some_some hh
 exact hN1 z2 _ _ _ hk1 (el [] (rens_sp kr (ro nr_eI rl_n)) hs_nil)
theorem low___spec_l20Rd__pick:LW 49 ⟨99,[(.tmp 4)],(.seq (.reg false (rg 49 0)) (.seq (.reg false (rg 49 1)) (.seq (.seq (.reg false (rg 49 2)) (.cond (.t 24) (.seq (.reg false (rg 49 3)) .ret) .skip)) (.seq (.reg false (rg 49 4)) (.seq (.seq (.reg false (rg 49 5)) (.cond (.t 36) (.seq (.reg false (rg 49 6)) .ret) .skip)) (.seq (.reg true (rg 49 7)) (.seq (.reg false (rg 49 8)) (.seq (.reg false (rg 49 9)) .ret))))))))⟩:=kr
noncomputable def F___spec_l20Rd__pick (x_r:Dl20Rd) (x_n:Int):Option (Dl20Rd × Int) :=
 cond (decide (x_n<(1:Int)))
  (some ((Dl20Rd.mk x_r.b (w64 (x_r.p+(1:Int)))),(0:Int)))
  (cond (decide ((((List.length x_r.b):Nat):Int)=(0:Int)))
   (some ((Dl20Rd.mk x_r.b (w64 (x_r.p+(1:Int)))),(0:Int)))
   (cond (decide ((w64 ((w64 (x_r.p+(1:Int))) - (1:Int)))<(((List.length x_r.b):Nat):Int)))
    (grd ((0:Int)≤(w64 ((w64 (x_r.p+(1:Int))) - (1:Int)))∧(w64 ((w64 (x_r.p+(1:Int))) - (1:Int)))<((List.length x_r.b:Nat):Int)) (grd (x_n≠0) (some ((Dl20Rd.mk x_r.b (w64 (x_r.p+(1:Int)))),(Int.tmod (IntKind.wrap .i64 (List.getD x_r.b (Int.toNat (w64 ((w64 (x_r.p+(1:Int))) - (1:Int)))) default)) x_n)))))
    (grd ((((List.length x_r.b):Nat):Int)≠0) (grd ((0:Int)≤(Int.tmod (w64 ((w64 (x_r.p+(1:Int))) - (1:Int))) (((List.length x_r.b):Nat):Int))∧(Int.tmod (w64 ((w64 (x_r.p+(1:Int))) - (1:Int))) (((List.length x_r.b):Nat):Int))<((List.length x_r.b:Nat):Int)) (grd ((((List.length x_r.b):Nat):Int)≠0) (grd ((0:Int)≤(Int.tmod (w64 ((w64 ((w64 ((w64 (x_r.p+(1:Int))) - (1:Int)))*(7:Int)))+(3:Int))) (((List.length x_r.b):Nat):Int))∧(Int.tmod (w64 ((w64 ((w64 ((w64 (x_r.p+(1:Int))) - (1:Int)))*(7:Int)))+(3:Int))) (((List.length x_r.b):Nat):Int))<((List.length x_r.b:Nat):Int)) (grd ((((List.length x_r.b):Nat):Int)≠0) (grd (x_n≠0) (some ((Dl20Rd.mk x_r.b (w64 (x_r.p+(1:Int)))),(Int.tmod (bits .xor .i64 (w64 ((w64 ((w64 ((w64 ((IntKind.wrap .i64 (List.getD x_r.b (Int.toNat (Int.tmod (w64 ((w64 (x_r.p+(1:Int))) - (1:Int))) (((List.length x_r.b):Nat):Int))) default))*(131:Int)))+(w64 ((IntKind.wrap .i64 (List.getD x_r.b (Int.toNat (Int.tmod (w64 ((w64 ((w64 ((w64 (x_r.p+(1:Int))) - (1:Int)))*(7:Int)))+(3:Int))) (((List.length x_r.b):Nat):Int))) default))*(1117:Int)))))+(w64 ((w64 ((w64 (x_r.p+(1:Int))) - (1:Int)))*(29:Int)))))+(w64 ((w64 (Int.tdiv (w64 ((w64 (x_r.p+(1:Int))) - (1:Int))) (((List.length x_r.b):Nat):Int)))*(53:Int))))) (w64 (Int.tdiv (w64 ((w64 ((w64 ((w64 ((IntKind.wrap .i64 (List.getD x_r.b (Int.toNat (Int.tmod (w64 ((w64 (x_r.p+(1:Int))) - (1:Int))) (((List.length x_r.b):Nat):Int))) default))*(131:Int)))+(w64 ((IntKind.wrap .i64 (List.getD x_r.b (Int.toNat (Int.tmod (w64 ((w64 ((w64 ((w64 (x_r.p+(1:Int))) - (1:Int)))*(7:Int)))+(3:Int))) (((List.length x_r.b):Nat):Int))) default))*(1117:Int)))))+(w64 ((w64 ((w64 (x_r.p+(1:Int))) - (1:Int)))*(29:Int)))))+(w64 ((w64 (Int.tdiv (w64 ((w64 (x_r.p+(1:Int))) - (1:Int))) (((List.length x_r.b):Nat):Int)))*(53:Int))))) (64:Int)))) x_n)))))))))))
theorem __spec_l20Rd__pick_fn {x_r:Dl20Rd} {x_n:Int} {R_:Dl20Rd × Int} (hh:F___spec_l20Rd__pick x_r x_n=some R_):Inl Try.prog 49 [pp 0,.int .i64 x_n] [(0,some (rB134 x_r))] 1 (.int .i64 R_.2) [(0,some ⟨134,[bo (eI .u8) R_.1.b,.int .i64 R_.1.p]⟩)] 1:=by
 let z4:=(0,pp 0); let z5:=(1,ii x_n); let z6:=(36,bb (decide ((w64 ((w64 (x_r.p+(1:Int))) - (1:Int)))<(((List.length x_r.b):Nat):Int)))); let z7:=(5,ii (w64 ((w64 (x_r.p+(1:Int))) - (1:Int)))); let z8:=(51,ii (w64 ((w64 (x_r.p+(1:Int))) - (1:Int)))); let z9:=(56,ii (((List.length x_r.b):Nat):Int)); let z10:=(57,ii (Int.tmod (w64 ((w64 (x_r.p+(1:Int))) - (1:Int))) (((List.length x_r.b):Nat):Int))); let z1:=List.getD x_r.b (Int.toNat (Int.tmod (w64 ((w64 ((w64 ((w64 (x_r.p+(1:Int))) - (1:Int)))*(7:Int)))+(3:Int))) (((List.length x_r.b):Nat):Int))) default; let z2:=List.getD x_r.b (Int.toNat (Int.tmod (w64 ((w64 (x_r.p+(1:Int))) - (1:Int))) (((List.length x_r.b):Nat):Int))) default; let z3:=List.getD x_r.b (Int.toNat (w64 ((w64 (x_r.p+(1:Int))) - (1:Int)))) default
 unfold F___spec_l20Rd__pick at hh
 refine Inl.start low___spec_l20Rd__pick [0,1] [0] (E:=sp 99 [z4,z5]) (H1:=[(0,some (rB134 x_r))]) kr kr (sy [0,1] [0] (sp 99 [z4,z5]) [(0,some (rB134 x_r))] 1 (Aw.sreg [0,1] [0] ?_))
 let q1:Root:=⟨134,[bo (eI .u8) x_r.b,ii (w64 (x_r.p+(1:Int)))]⟩; let z11:=(0,some q1)
 refine yt (sp 99 [z4,z5]) [z11] 1 (Aw.seq (Aw.sreg [0,1,24] [0] (yj 3  (sp 99 [z4,z5,(15,ii x_n),(16,bb (decide (x_n<(1:Int)))),(17,bb (decide (x_n<(1:Int))))]) [z11] 1 ?_)))
 rcases cond_some hh with ⟨hb,hh⟩ | ⟨hb,hh⟩
 · refine yb 16 hb (yb 17 hb (yt (sp 99 [z4,z5,(24,bb true)]) [z11] 1 (cT rfl (sy [4] [0] (sp 99 [(4,ii 0)]) [z11] 1 (Aw.ret (then_r ?_))))))
   rw [some_some hh]
   exact gives (r':=ii 0) kr (el [some 0] (rens_1 ren_i) (hq q1 rz hs_nil))
 refine yb 16 hb (yb 17 hb (yt (sp 99 [z4,z5,(24,bb (decide ((((List.length x_r.b):Nat):Int)=(0:Int))))]) [z11] 1 ?_))
 rcases cond_some hh with ⟨hb,hh⟩ | ⟨hb,hh⟩
 · refine cT hb (sy [4] [0] (sp 99 [(4,ii 0)]) [z11] 1 (Aw.ret (then_r ?_)))
   rw [some_some hh]
   exact gives (r':=ii 0) kr (el [some 0] (rens_1 ren_i) (hq q1 rz hs_nil))
 refine cF hb (Aw.xskip (fun _ _ _ hq=>then_m hq) (sy [0,1,5] [0] (sp 99 [z4,z5,z7]) [z11] 1 (Aw.seq (sy [0,1,5,36] [0] (sp 99 [z4,z5,z7,z6]) [z11] 1 ?_))))
 rcases cond_some hh with ⟨hb,hh⟩ | ⟨hb,hh⟩
 · refine cT hb (Aw.sreg [4] [0] (yu 5 [(37,pp 0),(38,pp 0),(39,pp 0),(40,bo (eI .u8) x_r.b),(41,ii (w64 ((w64 (x_r.p+(1:Int))) - (1:Int))))] [z11] 1 ?_))
   obtain ⟨hg7,hh⟩:=grd_some hh
   refine ys (.iadr 1 (.t 40) (.t 41)) (some 42) (op_iadr (kd:=.i64) (c:=(eI .u8)) (xs:=x_r.b) len_eI dd kr kr hg7 ?_)
   refine ys (.load false 1 (.t 42)) (some 43) (op_loadb (c:=(eI .u8)) (xs:=x_r.b) (o:=Int.toNat (w64 ((w64 (x_r.p+(1:Int))) - (1:Int)))*1) (i:=(Int.toNat (w64 ((w64 (x_r.p+(1:Int))) - (1:Int))))) (off:=0) (v:=.int .u8 z3) len_eI kr ltn ltn dd kr ?_)
   obtain ⟨hg8,hh⟩:=grd_some hh
   refine ytc [x_n≠0] (sp 99 [(4,ii (Int.tmod (IntKind.wrap .i64 z3) x_n))]) [z11] 1 (.cons hg8 .nil) (Aw.ret (then_r ?_))
   rw [some_some hh]
   exact gives (r':=ii (Int.tmod (IntKind.wrap .i64 z3) x_n)) kr (el [some 0] (rens_1 ren_i) (hq q1 rz hs_nil))
 refine cF hb (Aw.xskip (fun _ _ _ hq=>then_m hq) (Aw.sregq [1,6] ?_))
 obtain ⟨hg20,hh⟩:=grd_some hh
 refine qc (cs:=[(((List.length x_r.b):Nat):Int)≠0]) (E':=(sp 99 [z4,z5,z7,z6,(47,pp 0),(48,pp 0),(49,pp 0),(50,bo (eI .u8) x_r.b),z8,(52,pp 0),(53,pp 0),(54,pp 0),(55,bo (eI .u8) x_r.b),z9,z10])) (pre:=(List.take 11 (rg 49 7))) (L':=(List.drop 11 (rg 49 7))) kr (fun K=>by kernel_rfl) (.cons hg20 .nil) ?_
 obtain ⟨hg14,hh⟩:=grd_some hh
 refine qs (.iadr 1 (.t 50) (.t 57)) (some 58) (yq_q rfl (op_iadr (kd:=.i64) (c:=(eI .u8)) (xs:=x_r.b) len_eI dd kr kr hg14 ?_))
 refine qs (.load false 1 (.t 58)) (some 59) (yq_q rfl (op_loadb (c:=(eI .u8)) (xs:=x_r.b) (o:=Int.toNat (Int.tmod (w64 ((w64 (x_r.p+(1:Int))) - (1:Int))) (((List.length x_r.b):Nat):Int))*1) (i:=(Int.toNat (Int.tmod (w64 ((w64 (x_r.p+(1:Int))) - (1:Int))) (((List.length x_r.b):Nat):Int)))) (off:=0) (v:=.int .u8 z2) len_eI kr ltn ltn dd kr ?_))
 obtain ⟨hg19,hh⟩:=grd_some hh
 refine qc (cs:=[(((List.length x_r.b):Nat):Int)≠0]) (E':=(sp 99 [z4,z5,z7,z6,(47,pp 0),(48,pp 0),(49,pp 0),(50,bo (eI .u8) x_r.b),z8,(52,pp 0),(53,pp 0),(54,pp 0),(55,bo (eI .u8) x_r.b),z9,z10,(58,.bptr (fl (eI .u8) x_r.b) (Int.toNat (Int.tmod (w64 ((w64 (x_r.p+(1:Int))) - (1:Int))) (((List.length x_r.b):Nat):Int))*1)),(59,.int .u8 z2),(60,ii (IntKind.wrap .i64 z2)),(61,ii (w64 ((IntKind.wrap .i64 z2)*(131:Int)))),(62,pp 0),(63,pp 0),(64,pp 0),(65,bo (eI .u8) x_r.b),(66,ii (w64 ((w64 (x_r.p+(1:Int))) - (1:Int)))),(67,ii (w64 ((w64 ((w64 (x_r.p+(1:Int))) - (1:Int)))*(7:Int)))),(68,ii (w64 ((w64 ((w64 ((w64 (x_r.p+(1:Int))) - (1:Int)))*(7:Int)))+(3:Int)))),(69,pp 0),(70,pp 0),(71,pp 0),(72,bo (eI .u8) x_r.b),(73,ii (((List.length x_r.b):Nat):Int)),(74,ii (Int.tmod (w64 ((w64 ((w64 ((w64 (x_r.p+(1:Int))) - (1:Int)))*(7:Int)))+(3:Int))) (((List.length x_r.b):Nat):Int)))])) (pre:=(List.take 15 (List.drop 13 (rg 49 7)))) (L':=(List.drop 28 (rg 49 7))) kr (fun K=>by kernel_rfl) (.cons hg19 .nil) ?_
 obtain ⟨hg15,hh⟩:=grd_some hh
 refine qs (.iadr 1 (.t 65) (.t 74)) (some 75) (yq_q rfl (op_iadr (kd:=.i64) (c:=(eI .u8)) (xs:=x_r.b) len_eI dd kr kr hg15 ?_))
 refine qs (.load false 1 (.t 75)) (some 76) (yq_q rfl (op_loadb (c:=(eI .u8)) (xs:=x_r.b) (o:=Int.toNat (Int.tmod (w64 ((w64 ((w64 ((w64 (x_r.p+(1:Int))) - (1:Int)))*(7:Int)))+(3:Int))) (((List.length x_r.b):Nat):Int))*1) (i:=(Int.toNat (Int.tmod (w64 ((w64 ((w64 ((w64 (x_r.p+(1:Int))) - (1:Int)))*(7:Int)))+(3:Int))) (((List.length x_r.b):Nat):Int)))) (off:=0) (v:=.int .u8 z1) len_eI kr ltn ltn dd kr ?_))
 obtain ⟨hg18,hh⟩:=grd_some hh
 refine qct (cs:=[(((List.length x_r.b):Nat):Int)≠0]) (E':=(sp 99 [z5,(6,ii (w64 ((w64 ((w64 ((w64 ((IntKind.wrap .i64 z2)*(131:Int)))+(w64 ((IntKind.wrap .i64 z1)*(1117:Int)))))+(w64 ((w64 ((w64 (x_r.p+(1:Int))) - (1:Int)))*(29:Int)))))+(w64 ((w64 (Int.tdiv (w64 ((w64 (x_r.p+(1:Int))) - (1:Int))) (((List.length x_r.b):Nat):Int)))*(53:Int))))))])) (fun K=>by kernel_rfl) (.cons hg18 .nil) (Aw.sreg [1,6] [0] (ytc [(64:Int)≠0] (sp 99 [z5,(6,ii (bits .xor .i64 (w64 ((w64 ((w64 ((w64 ((IntKind.wrap .i64 z2)*(131:Int)))+(w64 ((IntKind.wrap .i64 z1)*(1117:Int)))))+(w64 ((w64 ((w64 (x_r.p+(1:Int))) - (1:Int)))*(29:Int)))))+(w64 ((w64 (Int.tdiv (w64 ((w64 (x_r.p+(1:Int))) - (1:Int))) (((List.length x_r.b):Nat):Int)))*(53:Int))))) (w64 (Int.tdiv (w64 ((w64 ((w64 ((w64 ((IntKind.wrap .i64 z2)*(131:Int)))+(w64 ((IntKind.wrap .i64 z1)*(1117:Int)))))+(w64 ((w64 ((w64 (x_r.p+(1:Int))) - (1:Int)))*(29:Int)))))+(w64 ((w64 (Int.tdiv (w64 ((w64 (x_r.p+(1:Int))) - (1:Int))) (((List.length x_r.b):Nat):Int)))*(53:Int))))) (64:Int)))))]) [z11] 1 (.cons dd .nil) (Aw.sreg [4] [0] ?_)))
 obtain ⟨hg17,hh⟩:=grd_some hh
 refine ytc [x_n≠0] (sp 99 [(4,ii (Int.tmod (bits .xor .i64 (w64 ((w64 ((w64 ((w64 ((IntKind.wrap .i64 z2)*(131:Int)))+(w64 ((IntKind.wrap .i64 z1)*(1117:Int)))))+(w64 ((w64 ((w64 (x_r.p+(1:Int))) - (1:Int)))*(29:Int)))))+(w64 ((w64 (Int.tdiv (w64 ((w64 (x_r.p+(1:Int))) - (1:Int))) (((List.length x_r.b):Nat):Int)))*(53:Int))))) (w64 (Int.tdiv (w64 ((w64 ((w64 ((w64 ((IntKind.wrap .i64 z2)*(131:Int)))+(w64 ((IntKind.wrap .i64 z1)*(1117:Int)))))+(w64 ((w64 ((w64 (x_r.p+(1:Int))) - (1:Int)))*(29:Int)))))+(w64 ((w64 (Int.tdiv (w64 ((w64 (x_r.p+(1:Int))) - (1:Int))) (((List.length x_r.b):Nat):Int)))*(53:Int))))) (64:Int)))) x_n))]) [z11] 1 (.cons hg17 .nil) (Aw.ret ?_)
 rw [some_some hh]
 exact gives (r':=ii (Int.tmod (bits .xor .i64 (w64 ((w64 ((w64 ((w64 ((IntKind.wrap .i64 z2)*(131:Int)))+(w64 ((IntKind.wrap .i64 z1)*(1117:Int)))))+(w64 ((w64 ((w64 (x_r.p+(1:Int))) - (1:Int)))*(29:Int)))))+(w64 ((w64 (Int.tdiv (w64 ((w64 (x_r.p+(1:Int))) - (1:Int))) (((List.length x_r.b):Nat):Int)))*(53:Int))))) (w64 (Int.tdiv (w64 ((w64 ((w64 ((w64 ((IntKind.wrap .i64 z2)*(131:Int)))+(w64 ((IntKind.wrap .i64 z1)*(1117:Int)))))+(w64 ((w64 ((w64 (x_r.p+(1:Int))) - (1:Int)))*(29:Int)))))+(w64 ((w64 (Int.tdiv (w64 ((w64 (x_r.p+(1:Int))) - (1:Int))) (((List.length x_r.b):Nat):Int)))*(53:Int))))) (64:Int)))) x_n)) kr (el [some 0] (rens_1 ren_i) (hq q1 rz hs_nil))
theorem low___spec_l20Rd__word:LW 116 ⟨9,[(.tmp 2)],(.seq (.reg false (rg 116 0)) (.seq (.reg false (rg 116 1)) .ret))⟩:=kr
noncomputable def F___spec_l20Rd__word (x_r:Dl20Rd):Option (Dl20Rd × Int) :=
 Option.bind (F___spec_l20Rd__pick x_r (16:Int)) fun v1 =>
 Option.bind (F___spec_l20Rd__pick v1.1 (256:Int)) fun v2 =>
 some (v2.1,(w64 ((w64 (v1.2*(256:Int)))+v2.2)))
theorem __spec_l20Rd__word_fn {x_r:Dl20Rd} {R_:Dl20Rd × Int} (hh:F___spec_l20Rd__word x_r=some R_):Inl Try.prog 116 [pp 0] [(0,some (rB134 x_r))] 1 (.int .i64 R_.2) [(0,some ⟨134,[bo (eI .u8) R_.1.b,.int .i64 R_.1.p]⟩)] 1:=by
 let z1:EH:=(0,some (rB134 x_r))
 unfold F___spec_l20Rd__word at hh
 refine Inl.start low___spec_l20Rd__word [0] [0] (E:=sp 9 [(0,pp 0)]) (H1:=[z1]) kr kr (sy [0] [0] (sp 9 [(0,pp 0)]) [z1] 1 (Aw.sreg [2] [0] (yu 1 [(3,pp 0)] [z1] 1 ?_)))
 obtain ⟨v1,hv1,hh⟩:=bind_some hh
 refine ys (.call 49 [(.t 3),(.c (ii 16))]) (some 4) (cf (ii v1.2) [(0,some (rB134 v1.1))] 1 [0] (__spec_l20Rd__pick_fn hv1) [pp 0,ii 16] rz (hq (rB134 x_r) (rens_same (nr_B_134 _)) hs_nil) ren_i (hq (rB134 v1.1) (rens_same (nr_B_134 _)) hs_nil) ?_)
 refine yu 2 [(4,ii v1.2),(5,ii (w64 (v1.2*(256:Int)))),(6,pp 0)] [(0,some (rB134 v1.1)),(0,none),z1] 1 ?_
 obtain ⟨v2,hv2,hh⟩:=bind_some hh
 refine ys (.call 49 [(.t 6),(.c (ii 256))]) (some 7) (cf (ii v2.2) [(0,some (rB134 v2.1))] 1 [0] (__spec_l20Rd__pick_fn hv2) [pp 0,ii 256] rz (hq (rB134 v1.1) (rens_same (nr_B_134 _)) hs_nil) ren_i (hq (rB134 v2.1) (rens_same (nr_B_134 _)) hs_nil) ?_)
 refine yt (sp 9 [(2,ii (w64 ((w64 (v1.2*(256:Int)))+v2.2)))]) [(0,some (rB134 v2.1))] 1 (Aw.ret ?_)
 rw [some_some hh]
 exact gives (r':=ii (w64 ((w64 (v1.2*(256:Int)))+v2.2))) kr (el [some 0] (rens_1 ren_i) (hq (rB134 v2.1) (rens_same (nr_B_134 _)) hs_nil))
theorem low___spec_l20Rd__odd:LW 117 ⟨15,[(.tmp 4)],(.seq (.reg false (rg 117 0)) (.seq (.reg false (rg 117 1)) .ret))⟩:=kr
noncomputable def F___spec_l20Rd__odd (x_r:Dl20Rd) (x_n:Int):Option (Dl20Rd × Bool) :=
 cond (decide ((0:Int)<x_n))
  (Option.bind (F___spec_l20Rd__pick x_r x_n) fun v1 =>
  some (v1.1,(decide (v1.2=(w64 (x_n - (1:Int)))))))
  (some (x_r,false))
theorem __spec_l20Rd__odd_fn {x_r:Dl20Rd} {x_n:Int} {R_:Dl20Rd × Bool} (hh:F___spec_l20Rd__odd x_r x_n=some R_):Inl Try.prog 117 [pp 0,.int .i64 x_n] [(0,some (rB134 x_r))] 1 (.bool R_.2) [(0,some ⟨134,[bo (eI .u8) R_.1.b,.int .i64 R_.1.p]⟩)] 1:=by
 let z1:EH:=(0,some (rB134 x_r))
 unfold F___spec_l20Rd__odd at hh
 refine Inl.start low___spec_l20Rd__odd [0,1] [0] (E:=sp 15 [(0,pp 0),(1,ii x_n)]) (H1:=[z1]) kr kr (sy [0,1] [0] (sp 15 [(0,pp 0),(1,ii x_n)]) [z1] 1 (Aw.sreg [4] [0] (yu 3 [(5,ii x_n),(6,bb (decide ((0:Int)<x_n))),(7,bb (decide ((0:Int)<x_n)))] [z1] 1 ?_)))
 rcases cond_sf hh with ⟨hb,hh⟩ | ⟨hb,hh⟩
 · refine yb 6 hb (yb 7 hb (yt (sp 15 [(4,bb false)]) [z1] 1 (Aw.ret ?_)))
   rw [some_some hh]
   exact gives (r':=bb false) kr (el [some 0] (rens_1 ren_b) (hq (rB134 x_r) (rens_same (nr_B_134 _)) hs_nil))
 refine yb 6 hb (yb 7 hb (yu 2 [(6,bb true),(7,bb true),(8,pp 0),(9,ii x_n)] [z1] 1 ?_))
 obtain ⟨v1,hv1,hh⟩:=bind_some hh
 refine yg (.call 49 [(.t 8),(.t 9)]) (some 10) 7 true (cf (ii v1.2) [(0,some (rB134 v1.1))] 1 [0] (__spec_l20Rd__pick_fn hv1) [pp 0,ii x_n] rz (hq (rB134 x_r) (rens_same (nr_B_134 _)) hs_nil) ren_i (hq (rB134 v1.1) (rens_same (nr_B_134 _)) hs_nil) ?_)
 refine yt (sp 15 [(4,bb (decide (v1.2=(w64 (x_n - (1:Int))))))]) [(0,some (rB134 v1.1))] 1 (Aw.ret ?_)
 rw [some_some hh]
 exact gives (r':=bb (decide (v1.2=(w64 (x_n - (1:Int)))))) kr (el [some 0] (rens_1 ren_b) (hq (rB134 v1.1) (rens_same (nr_B_134 _)) hs_nil))
theorem low_spec_EntryWord:LW 155 ⟨24,[(.tmp 2)],(.seq (.reg false (rg 155 0)) (.seq (.seq (.reg false (rg 155 1)) (.cond (.t 7) (.seq (.reg false (rg 155 2)) .ret) .skip)) (.seq (.reg false (rg 155 3)) (.seq (.seq (.reg false (rg 155 4)) (.cond (.t 12) (.reg false (rg 155 5)) .skip)) (.seq (.seq (.reg false (rg 155 6)) (.cond (.t 16) (.reg false (rg 155 7)) .skip)) (.seq (.seq (.reg false (rg 155 8)) (.cond (.t 20) (.reg false (rg 155 9)) .skip)) (.seq (.reg false (rg 155 10)) .ret)))))))⟩:=kr
noncomputable def F_spec_EntryWord_j4  (s4:Int):Option Int :=
 some s4
noncomputable def F_spec_EntryWord_j3 (x_e:DEntry) (s3:Int):Option Int :=
 Option.bind (cond x_e.User
  (some (.go (w64 (s3+(4:Int)))))
  (some (.go s3))) fun j4 =>
  JO.run j4 (F_spec_EntryWord_j4)
noncomputable def F_spec_EntryWord_j2 (x_e:DEntry) (s2:Int):Option Int :=
 Option.bind (cond x_e.Write
  (some (.go (w64 (s2+(2:Int)))))
  (some (.go s2))) fun j3 =>
  JO.run j3 (F_spec_EntryWord_j3 x_e)
noncomputable def F_spec_EntryWord (x_e:DEntry):Option Int :=
 Option.bind (F_spec_l1In x_e.Page (0:Int) (7:Int)) fun v1 =>
 cond (!v1)
  (some (-1:Int))
  (Option.bind (cond x_e.There
   (some (.go (w64 ((w64 (x_e.Page*(8:Int)))+(1:Int)))))
   (some (.go (w64 (x_e.Page*(8:Int)))))) fun j2 =>
   JO.run j2 (F_spec_EntryWord_j2 x_e))
theorem spec_EntryWord_fn {x_e:DEntry} {R_:Int} (hh:F_spec_EntryWord x_e=some R_):Fn Try.prog 155 [.agg (C_102 x_e)] (.int .i64 R_):=by
 let z1:EH:=(0,some ⟨102,(C_102 x_e)⟩); let z2:=(1,pp 0); let z3:=(3,ii (w64 (x_e.Page*(8:Int))))
 unfold F_spec_EntryWord at hh
 refine Fn.start low_spec_EntryWord [0] (E:=sp 24 [(0,.agg (C_102 x_e))]) kr (v:=ii R_) (Hr:=[]) (k:=0) kr (sy [1] [0] (sp 24 [z2]) [z1] 1 (Aw.seq (Aw.sreg [1,7] [0] (yj 2  (sp 24 [z2,(4,.ptr 0 [] 3),(5,ii x_e.Page)]) [z1] 1 ?_))))
 obtain ⟨v1,hv1,hh⟩:=bind_some hh
 refine ys (.call 73 [(.t 5),(.c (ii 0)),(.c (ii 7))]) (some 6) (oc (spec_l1In_fn hv1) ?_)
 refine yt (sp 24 [z2,(7,bb (!v1))]) [z1] 1 ?_
 rcases cond_some hh with ⟨hb,hh⟩ | ⟨hb,hh⟩
 · exact cT hb (sy [2] [] (sp 24 [(2,ii (-1))]) [] 1 (Aw.ret (then_r (gvis hh))))
 refine cF hb (Aw.xskip (fun _ _ _ hq=>then_m hq) (sy [1,3] [0] (sp 24 [z2,z3]) [z1] 1 ?_))
 obtain ⟨j2,hh,hk2⟩:=bind_some hh
 refine Aw.join (S:=Int) (fun s2=>sp 24 [(1,pp 0),(3,ii s2)]) (fun s2=>[(0,some ⟨102,(C_102 x_e)⟩)]) 1 (fun s2=>F_spec_EntryWord_j2 x_e s2=some R_) ?_ ?_
 · intro s2 hh
   unfold F_spec_EntryWord_j2 at hh
   obtain ⟨j3,hh,hk3⟩:=bind_some hh
   refine Aw.join (S:=Int) (fun s3=>sp 24 [(1,pp 0),(3,ii s3)]) (fun s3=>[(0,some ⟨102,(C_102 x_e)⟩)]) 1 (fun s3=>F_spec_EntryWord_j3 x_e s3=some R_) ?_ ?_
   · intro s3 hh
     unfold F_spec_EntryWord_j3 at hh
     obtain ⟨j4,hh,hk4⟩:=bind_some hh
     refine Aw.join (S:=Int) (fun s4=>sp 24 [(3,ii s4)]) (fun s4=>[]) 0 (fun s4=>F_spec_EntryWord_j4 s4=some R_) ?_ ?_
     · intro s4 hh
       unfold F_spec_EntryWord_j4 at hh
       exact sy [2] [] (sp 24 [(2,ii s4)]) [] 0 (Aw.ret (gvis hh))
     intro Q4 hN4 hR4 hE4
     refine sy [3,20] [] (sp 24 [(3,ii s3),(20,bb x_e.User)]) [] 1 ?_
     rcases cond_some hh with ⟨hb,hh⟩ | ⟨hb,hh⟩
     · refine cT hb (Aw.oreg (ye (sp 24 [(3,ii (w64 (s3+(4:Int)))),(20,bb x_e.User),(21,ii s3),(22,ii (w64 (s3+(4:Int))))]) [] 1 ?_))
       obtain rfl:=some_some hh
       exact hN4 (w64 (s3+(4:Int))) _ _ _ hk4 (el [] (rens_sp kr (ri rl_n)) hs_nil)
     refine cF hb (Aw.skip ?_)
     obtain rfl:=some_some hh
     exact hN4 s3 _ _ _ hk4 (el [] (rens_sp kr (ri rl_n)) hs_nil)
   intro Q3 hN3 hR3 hE3
   refine sy [1,3,16] [0] (sp 24 [z2,(3,ii s2),(16,bb x_e.Write)]) [z1] 1 ?_
   rcases cond_some hh with ⟨hb,hh⟩ | ⟨hb,hh⟩
   · refine cT hb (Aw.oreg (ye (sp 24 [z2,(3,ii (w64 (s2+(2:Int)))),(16,bb x_e.Write),(17,ii s2),(18,ii (w64 (s2+(2:Int))))]) [z1] 1 ?_))
     obtain rfl:=some_some hh
     exact hN3 (w64 (s2+(2:Int))) _ _ _ hk3 (el [some 0] (rens_sp kr (rp 0 (ri rl_n))) (hq ⟨102,(C_102 x_e)⟩ (rens_same (nr_C_102 _)) hs_nil))
   refine cF hb (Aw.skip ?_)
   obtain rfl:=some_some hh
   exact hN3 s2 _ _ _ hk3 (el [some 0] (rens_sp kr (rp 0 (ri rl_n))) (hq ⟨102,(C_102 x_e)⟩ (rens_same (nr_C_102 _)) hs_nil))
 intro Q2 hN2 hR2 hE2
 refine sy [1,3,12] [0] (sp 24 [z2,z3,(12,bb x_e.There)]) [z1] 1 ?_
 rcases cond_sf hh with ⟨hb,hh⟩ | ⟨hb,hh⟩
 · refine cF hb (Aw.skip ?_)
   obtain rfl:=some_some hh
   exact hN2 (w64 (x_e.Page*(8:Int))) _ _ _ hk2 (el [some 0] (rens_sp kr (rp 0 (ri rl_n))) (hq ⟨102,(C_102 x_e)⟩ (rens_same (nr_C_102 _)) hs_nil))
 refine cT hb (Aw.oreg (ye (sp 24 [z2,(3,ii (w64 ((w64 (x_e.Page*(8:Int)))+(1:Int)))),(12,bb x_e.There),(13,ii (w64 (x_e.Page*(8:Int)))),(14,ii (w64 ((w64 (x_e.Page*(8:Int)))+(1:Int))))]) [z1] 1 ?_))
 obtain rfl:=some_some hh
 exact hN2 (w64 ((w64 (x_e.Page*(8:Int)))+(1:Int))) _ _ _ hk2 (el [some 0] (rens_sp kr (rp 0 (ri rl_n))) (hq ⟨102,(C_102 x_e)⟩ (rens_same (nr_C_102 _)) hs_nil))
theorem low_spec_l20Mem:LW 118 ⟨60,[(.tmp 4)],(.seq (.reg false (rg 118 0)) (.seq (.reg false (rg 118 1)) (.seq (.seq (.reg false (rg 118 2)) (.block 0 (.loop (.seq (.seq (.reg false (rg 118 3)) (.cond (.t 10) .skip (.exit 0))) (.seq (.block 1 (.seq (.reg false (rg 118 4)) (.seq (.seq (.reg false (rg 118 5)) (.cond (.t 15) (.reg false (rg 118 6)) .skip)) (.seq (.seq (.reg false (rg 118 7)) (.cond (.t 25) (.reg false (rg 118 8)) .skip)) (.reg false (rg 118 9)))))) (.reg false (rg 118 10))))))) (.seq (.seq (.reg false (rg 118 12)) (.cond (.t 45) (.seq (.reg false (rg 118 13)) (.cond (.t 48) (.reg false (rg 118 14)) (.reg false (rg 118 15)))) .skip)) (.seq (.reg false (rg 118 16)) .ret)))))⟩:=kr
noncomputable def F_spec_l20Mem_j2  (s2:(List Int) × Int × (List Int)):Option (Dl20Rd × (List Int)) :=
 some ((Dl20Rd.mk s2.1 s2.2.1),s2.2.2)
noncomputable def F_spec_l20Mem_j1 (x_n:Int) (s1:(List Int) × Int × (List Int)):Option (Dl20Rd × (List Int)) :=
 Option.bind (Option.bind (F___spec_l20Rd__odd (Dl20Rd.mk s1.1 s1.2.1) x_n) fun v3 =>
  cond v3.2
   (Option.bind (F___spec_l20Rd__pick v3.1 (2:Int)) fun v4 =>
   cond (decide (v4.2=(0:Int)))
    (grd ((0:Int)≤(0:Int)∧(0:Int)≤(63:Int)∧(63:Int)≤(((List.length s1.2.2):Nat):Int)) (some (.go (v4.1.b,v4.1.p,(List.take (Int.toNat (63:Int) - Int.toNat (0:Int)) s1.2.2)))))
    (Option.bind (F___spec_l20Rd__pick v4.1 (64:Int)) fun v5 =>
    Option.bind (F___spec_l20Rd__pick v5.1 (2:Int)) fun v6 =>
    grd ((0:Int)≤v5.2∧v5.2<(((List.length s1.2.2):Nat):Int)) (some (.go (v6.1.b,v6.1.p,(List.set s1.2.2 (Int.toNat v5.2) (w64 ((4096:Int) - (w64 (v6.2*(4097:Int)))))))))))
   (some (.go (v3.1.b,v3.1.p,s1.2.2)))) fun j2 =>
  JO.run j2 (F_spec_l20Mem_j2)
noncomputable def F_spec_l20Mem_j9 (s7:(List Int) × Int × (List Int) × Int) (s9:(List Int) × Int × Int):Option (LO ((List Int) × Int × (List Int) × Int) (JO ((List Int) × Int × (List Int)) (Dl20Rd × (List Int)))) :=
 grd ((List.length s7.2.2.1+List.length ([s9.2.2]:List Int))*8≤2 ^ 47∧List.length s7.2.2.1+List.length ([s9.2.2]:List Int)≤2 ^ 47) (some (.next (s9.1,s9.2.1,(s7.2.2.1 ++ ([s9.2.2]:List Int)),(w64 (s7.2.2.2+(1:Int))))))
noncomputable def F_spec_l20Mem_j8 (s7:(List Int) × Int × (List Int) × Int) (s8:(List Int) × Int × Int):Option (LO ((List Int) × Int × (List Int) × Int) (JO ((List Int) × Int × (List Int)) (Dl20Rd × (List Int)))) :=
 Option.bind (cond (decide ((w64 (Int.tdiv s7.2.2.2 (8:Int)))=(1:Int)))
  (Option.bind (F___spec_l20Rd__pick (Dl20Rd.mk s8.1 s8.2.1) (5:Int)) fun v10 =>
  Option.bind (F___spec_l20Rd__pick v10.1 (4:Int)) fun v11 =>
  Option.bind (F___spec_l20Rd__pick v11.1 (3:Int)) fun v12 =>
  Option.bind (F___spec_l20Rd__pick v12.1 (8:Int)) fun v13 =>
  Option.bind (F_spec_EntryWord (DEntry.mk (decide ((0:Int)<v10.2)) (decide ((0:Int)<v11.2)) (decide ((0:Int)<v12.2)) v13.2)) fun v14 =>
  some (.go (v13.1.b,v13.1.p,v14)))
  (cond (decide ((w64 (Int.tdiv s7.2.2.2 (8:Int)))=(2:Int)))
   (Option.bind (F___spec_l20Rd__pick (Dl20Rd.mk s8.1 s8.2.1) (5:Int)) fun v15 =>
   Option.bind (F___spec_l20Rd__pick v15.1 (4:Int)) fun v16 =>
   Option.bind (F___spec_l20Rd__pick v16.1 (3:Int)) fun v17 =>
   Option.bind (F___spec_l20Rd__pick v17.1 (8:Int)) fun v18 =>
   Option.bind (F_spec_EntryWord (DEntry.mk (decide ((0:Int)<v15.2)) (decide ((0:Int)<v16.2)) (decide ((0:Int)<v17.2)) v18.2)) fun v19 =>
   some (.go (v18.1.b,v18.1.p,v19)))
   (some (.go (s8.1,s8.2.1,s8.2.2))))) fun j9 =>
  JO.run j9 (F_spec_l20Mem_j9 s7)
noncomputable def F_spec_l20Mem_l7  (s7:(List Int) × Int × (List Int) × Int):Option (LO ((List Int) × Int × (List Int) × Int) (JO ((List Int) × Int × (List Int)) (Dl20Rd × (List Int)))) :=
 cond (decide (s7.2.2.2<(64:Int)))
  (Option.bind (Option.bind (F___spec_l20Rd__pick (Dl20Rd.mk s7.1 s7.2.1) (2:Int)) fun v20 =>
   cond (decide (v20.2=(0:Int)))
    (Option.bind (F___spec_l20Rd__word v20.1) fun v21 =>
    some (.go (v21.1.b,v21.1.p,v21.2)))
    (some (.go (v20.1.b,v20.1.p,(0:Int))))) fun j8 =>
   JO.run j8 (F_spec_l20Mem_j8 s7))
  (some (.ret (.go (s7.1,s7.2.1,s7.2.2.1))))
noncomputable def F_spec_l20Mem (x_r:Dl20Rd) (x_n:Int):Option (Dl20Rd × (List Int)) :=
 Option.bind (Option.bind (iter (F_spec_l20Mem_l7) (x_r.b,x_r.p,([]:List Int),(0:Int))) LO.val) fun j1 =>
  JO.run j1 (F_spec_l20Mem_j1 x_n)
theorem spec_l20Mem_fn {x_r:Dl20Rd} {x_n:Int} {R_:Dl20Rd × (List Int)} (hh:F_spec_l20Mem x_r x_n=some R_):Inl Try.prog 118 [pp 0,.int .i64 x_n] [(0,some (rB134 x_r))] 1 (.sref 1 [] 0 (List.length R_.2) 1) [(1,some (rI_3 R_.2)),(0,some ⟨134,[bo (eI .u8) R_.1.b,.int .i64 R_.1.p]⟩)] 2:=by
 let z3:EH:=(0,none); let z4:=(0,pp 0); let z5:EH:=(0,some (rB134 x_r)); let z6:=(1,ii x_n)
 unfold F_spec_l20Mem at hh
 refine Inl.start low_spec_l20Mem [0,1] [0] (E:=sp 60 [z4,z6]) (H1:=[z5]) kr kr (sy [0,1] [0] (sp 60 [z4,z6]) [z5] 1 (sy [0,1,5] [0,1] (sp 60 [z4,z6,(5,.sref 1 [] 0 0 1)]) [z5,(1,some ⟨3,[]⟩)] 2 ?_))
 obtain ⟨j1,hh,hk1⟩:=bind_some hh
 refine Aw.join (S:=(List Int) × Int × (List Int)) (fun s1=>sp 60 [(0,pp 0),(1,ii x_n),(5,sw 1 s1.2.2)]) (fun s1=>[(0,some ⟨134,[bo (eI .u8) s1.1,ii s1.2.1]⟩),(1,some (rI_3 s1.2.2))]) 2 (fun s1=>F_spec_l20Mem_j1 x_n s1=some R_) ?_ ?_
 · intro s1 hh
   let z7:=(5,sw 1 s1.2.2); let z1:=List.take (Int.toNat (63:Int) - Int.toNat (0:Int)) s1.2.2
   unfold F_spec_l20Mem_j1 at hh
   obtain ⟨j2,hh,hk2⟩:=bind_some hh
   refine Aw.join (S:=(List Int) × Int × (List Int)) (fun s2=>sp 60 [(5,sw 1 s2.2.2)]) (fun s2=>[(0,some ⟨134,[bo (eI .u8) s2.1,ii s2.2.1]⟩),(1,some (rI_3 s2.2.2))]) 2 (fun s2=>F_spec_l20Mem_j2 s2=some R_) ?_ ?_
   · intro s2 hh
     unfold F_spec_l20Mem_j2 at hh
     refine Aw.sreg [4] [0,1] ?_
     let q1:Root:=⟨134,[bo (eI .u8) s2.1,ii s2.2.1]⟩; let q2:Root:=(rI_3 s2.2.2)
     refine yt (sp 60 [(4,sw 1 s2.2.2)]) [(0,some q1),(1,some q2)] 2 (Aw.ret ?_)
     rw [some_some hh]
     exact gives (r':=sw 1 s2.2.2) kr (el [some 0,some 1] (rens_1 ren_sy) (hn nr_eI (hq q1 rz hs_nil)))
   intro Q2 hN2 hR2 hE2
   refine Aw.sreg [0,5,45] [0,1] ?_
   let q3:Root:=⟨134,[bo (eI .u8) s1.1,ii s1.2.1]⟩; let q4:Root:=(rI_3 s1.2.2); let z8:=(1,some q4)
   refine yj 2  (sp 60 [z4,z6,z7,(43,pp 0),(44,ii x_n)]) [(0,some q3),z8] 2 ?_
   obtain ⟨v3,hv3,hh⟩:=bind_some hh
   let z9:EH:=(0,some (rB134 v3.1))
   refine ys (.call 117 [(.t 43),(.t 44)]) (some 45) (cf (bb v3.2) [z9] 2 [0] (__spec_l20Rd__odd_fn hv3) [pp 0,ii x_n] rz (hq q3 rz hs_nil) ren_b (hq (rB134 v3.1) (rens_same (nr_B_134 _)) hs_nil) ?_)
   refine yt (sp 60 [z4,z7,(45,bb v3.2)]) [z9,z8] 2 ?_
   rcases cond_some hh with ⟨hb,hh⟩ | ⟨hb,hh⟩
   · refine cT hb (Aw.sreg [0,5,48] [0,1] (yu 1 [(46,pp 0)] [z9,z8] 2 ?_))
     obtain ⟨v4,hv4,hh⟩:=bind_some hh
     let z10:EH:=(0,some (rB134 v4.1)); let z11:=(48,bb (decide (v4.2=(0:Int))))
     refine ys (.call 49 [(.t 46),(.c (ii 2))]) (some 47) (cf (ii v4.2) [z10] 2 [0] (__spec_l20Rd__pick_fn hv4) [pp 0,ii 2] rz (hq (rB134 v3.1) (rens_same (nr_B_134 _)) hs_nil) ren_i (hq (rB134 v4.1) (rens_same (nr_B_134 _)) hs_nil) ?_)
     refine yt (sp 60 [z4,z7,z11]) [z10,z8] 2 ?_
     rcases cond_some hh with ⟨hb,hh⟩ | ⟨hb,hh⟩
     · refine cT hb (Aw.oreg (yu 1 [(49,sw 1 s1.2.2)] [z10,z8] 2 ?_))
       obtain ⟨hg18,hh⟩:=grd_some hh
       refine ys (.slc 1 (.t 49) none (some (.c (ii 63)))) (some 50) (op_slo (r:=1) (π:=[]) (o:=0) (k:=(List.length s1.2.2)) (sz:=1) (l:=(0:Int)) (h:=(63:Int)) kr kr kr hg18 ?_)
       refine ye (sp 60 [z4,(5,.sref 1 [] 0 (Int.toNat (63:Int) - Int.toNat (0:Int)) 1),z11,(49,sw 1 s1.2.2),(50,.sref 1 [] 0 (Int.toNat (63:Int) - Int.toNat (0:Int)) 1)]) [z10,z8] 2 ?_
       obtain rfl:=some_some hh
       let q5:Root:=(rI_3 z1)
       exact hN2 (v4.1.b,v4.1.p,z1) _ _ _ hk2 (Ent.trans (el [some 0,some 1] (rens_sp kr (rs (.sref 1 [] 0 (Int.toNat (63:Int) - Int.toNat (0:Int)) 1) rl_n)) (hq (rB134 v4.1) rz (hn nr_eI hs_nil))) (Ent.cut (H2:=[z10,(1,some q5)]) (HC.root (hc_c (t:=(rB134 v4.1)) kr (hc_t (c:=(eI .i64)) (xs:=s1.2.2) len_eI kr hc_n)))))
     refine cF hb (Aw.oreg (yu 2 [(51,sw 1 s1.2.2),(52,pp 0)] [z10,z8] 2 ?_))
     obtain ⟨v5,hv5,hh⟩:=bind_some hh
     let z12:EH:=(0,some (rB134 v5.1)); let z13:EV:=(58,.ptr 1 [] (0+(Int.toNat v5.2)*1))
     refine ys (.call 49 [(.t 52),(.c (ii 64))]) (some 53) (cf (ii v5.2) [z12] 2 [0] (__spec_l20Rd__pick_fn hv5) [pp 0,ii 64] rz (hq (rB134 v4.1) (rens_same (nr_B_134 _)) hs_nil) ren_i (hq (rB134 v5.1) (rens_same (nr_B_134 _)) hs_nil) ?_)
     refine yu 1 [(53,ii v5.2),(54,pp 0)] [z12,z3,z10,z8] 2 ?_
     obtain ⟨v6,hv6,hh⟩:=bind_some hh
     let z14:EH:=(0,some (rB134 v6.1)); let z15:=(56,ii (w64 (v6.2*(4097:Int)))); let z16:=(57,ii (w64 ((4096:Int) - (w64 (v6.2*(4097:Int)))))); let z2:=List.set s1.2.2 (Int.toNat v5.2) (w64 ((4096:Int) - (w64 (v6.2*(4097:Int)))))
     refine ys (.call 49 [(.t 54),(.c (ii 2))]) (some 55) (cf (ii v6.2) [z14] 2 [0] (__spec_l20Rd__pick_fn hv6) [pp 0,ii 2] rz (hq (rB134 v5.1) (rens_same (nr_B_134 _)) hs_nil) ren_i (hq (rB134 v6.1) (rens_same (nr_B_134 _)) hs_nil) ?_)
     obtain ⟨hg20,hh⟩:=grd_some hh
     refine yjc 3 [(0:Int)≤v5.2∧v5.2<(((List.length s1.2.2):Nat):Int)] (sp 60 [z4,z7,z11,(51,sw 1 s1.2.2),(52,pp 0),(53,ii v5.2),(54,pp 0),(55,ii v6.2),z15,z16,z13]) [z14,z3,z12,z3,z10,z8] 2 (.cons hg20 .nil) ?_
     let q6:Root:=(rI_3 z2)
     refine ys (.store 1 (.t 58) (.t 57)) none (op_store (c:=(eI .i64)) (xs:=s1.2.2) (e:=3) (r:=1) (π:=[]) (o:=0+(Int.toNat v5.2)*1) (i:=(Int.toNat v5.2)) (off:=0) (vs:=[ii (w64 ((4096:Int) - (w64 (v6.2*(4097:Int)))))]) (y:=(w64 ((4096:Int) - (w64 (v6.2*(4097:Int)))))) (H':=[(1,some q6),z14,z3,z12,z3,z10,z8]) len_eI kr kr kr kr ltn ltn dd kr kr ?_)
     refine ye (sp 60 [z4,z7,z11,(51,sw 1 s1.2.2),(52,pp 0),(53,ii v5.2),(54,pp 0),(55,ii v6.2),z15,z16,z13]) [(1,some q6),z14,z3,z12,z3,z10,z8] 2 ?_
     obtain rfl:=some_some hh
     exact hN2 (v6.1.b,v6.1.p,z2) _ _ _ hk2 (el [some 0,some 1] (rens_sp kr (rs (sw 1 s1.2.2) rl_n)) (hq (rB134 v6.1) rz (hn nr_eI hs_nil)))
   refine cF hb (Aw.skip ?_)
   obtain rfl:=some_some hh
   exact hN2 (v3.1.b,v3.1.p,s1.2.2) _ _ _ hk2 (el [some 0,some 1] (rens_sp kr (rs (sw 1 s1.2.2) rl_n)) (hq (rB134 v3.1) rz (hn nr_eI hs_nil)))
 intro Q1 hN1 hR1 hE1
 refine sy [0,1,5,6] [0,1] (sp 60 [z4,z6,(5,.sref 1 [] 0 0 1),(6,ii 0)]) [z5,(1,some ⟨3,[]⟩)] 2 (Aw.block ?_)
 obtain ⟨o7,hi7,hk7⟩:=bind_some hh
 refine Aw.iter (fun (s7:(List Int) × Int × (List Int) × Int)=>sp 60 [(0,pp 0),(1,ii x_n),(5,sw 1 s7.2.2.1),(6,ii s7.2.2.2)]) (fun (s7:(List Int) × Int × (List Int) × Int)=>[(0,some ⟨134,[bo (eI .u8) s7.1,ii s7.2.1]⟩),(1,some (rI_3 s7.2.2.1))]) 2 hi7 (el [some 0,some 1] (rens_sp kr (rp 0 (ri (rs (.sref 1 [] 0 0 1) (ri rl_n))))) (hq (rB134 x_r) rz (hn nr_eI hs_nil))) ?_
 intro s7 u7 Q7 hh hN7 hX7 hR7
 let z17:=(25,bb (decide ((w64 (Int.tdiv s7.2.2.2 (8:Int)))=(2:Int)))); let z18:=(5,sw 1 s7.2.2.1); let z19:=(6,ii s7.2.2.2)
 unfold F_spec_l20Mem_l7 at hh
 refine Aw.seq (Aw.sreg [0,1,5,6,10] [0,1] ?_)
 let q7:Root:=⟨134,[bo (eI .u8) s7.1,ii s7.2.1]⟩; let q8:Root:=(rI_3 s7.2.2.1); let z20:=(1,some q8)
 refine yt (sp 60 [z4,z6,z18,z19,(10,bb (decide (s7.2.2.2<(64:Int))))]) [(0,some q7),z20] 2 ?_
 rcases cond_sf hh with ⟨hb,hh⟩ | ⟨hb,hh⟩
 · refine cF hb (Aw.exit (then_x (hX7 _ _ _ _ _ (some_some hh) ?_)))
   intro hout
   rw [hout] at hk7
   refine blk_x ?_
   obtain rfl:=some_some hk7
   exact hN1 (s7.1,s7.2.1,s7.2.2.1) _ _ _ hk1 (el [some 0,some 1] (rens_sp kr (rp 0 (ri (rs (sw 1 s7.2.2.1) rl_n)))) (hq q7 rz (hn nr_eI hs_nil)))
 refine cT hb (Aw.xskip (fun _ _ _ hq=>then_m hq) (Aw.seq (Aw.block (sy [0,1,5,6,7] [0,1] (sp 60 [z4,z6,z18,z19,(7,ii 0)]) [(0,some q7),z20] 2 ?_))))
 obtain ⟨j8,hh,hk8⟩:=bind_some hh
 refine Aw.join (S:=(List Int) × Int × Int) (fun s8=>sp 60 [(0,pp 0),(1,ii x_n),(5,sw 1 s7.2.2.1),(6,ii s7.2.2.2),(7,ii s8.2.2)]) (fun s8=>[(0,some ⟨134,[bo (eI .u8) s8.1,ii s8.2.1]⟩),(1,some (rI_3 s7.2.2.1))]) 2 (fun s8=>F_spec_l20Mem_j8 s7 s8=some u7) ?_ ?_
 · intro s8 hh
   unfold F_spec_l20Mem_j8 at hh
   obtain ⟨j9,hh,hk9⟩:=bind_some hh
   refine Aw.join (S:=(List Int) × Int × Int) (fun s9=>sp 60 [(0,pp 0),(1,ii x_n),(5,sw 1 s7.2.2.1),(6,ii s7.2.2.2),(7,ii s9.2.2)]) (fun s9=>[(0,some ⟨134,[bo (eI .u8) s9.1,ii s9.2.1]⟩),(1,some (rI_3 s7.2.2.1))]) 2 (fun s9=>F_spec_l20Mem_j9 s7 s9=some u7) ?_ ?_
   · intro s9 hh
     let z21:EV:=(5,.sref 3 [] 0 (List.length (s7.2.2.1 ++ ([s9.2.2]:List Int))) 1)
     unfold F_spec_l20Mem_j9 at hh
     refine Aw.xreg [0,1,5,6] [0,3] (fun _ _ _ hq=>blk_m (then_m hq)) ?_
     let q9:Root:=⟨134,[bo (eI .u8) s9.1,ii s9.2.1]⟩
     refine yj 3  (sp 60 [z4,z6,z18,z19,(7,ii s9.2.2),(39,sw 1 s7.2.2.1),(40,ii s9.2.2),(41,.sref 2 [] 0 1 1)]) [(2,some ⟨3,[ii s9.2.2]⟩),(0,some q9),z20] 3 ?_
     obtain ⟨hg28,hh⟩:=grd_some hh
     refine ys (.app 3 1 8 [(ii 0)] (.t 39) (.t 41)) (some 42) (op_app (c:=(eI .i64)) (xs:=s7.2.2.1) (ys:=([s9.2.2]:List Int)) (r:=1) (k:=(List.length s7.2.2.1)) (π:=[]) eqn len_eI kr kr kr hg28 ?_)
     let q10:Root:=(rI_3 (s7.2.2.1 ++ ([s9.2.2]:List Int)))
     exact yt (sp 60 [z4,z6,z21,z19]) [(0,some q9),(3,some q10)] 4 (Aw.oreg (ye (sp 60 [z4,z6,z21,(6,ii (w64 (s7.2.2.2+(1:Int)))),(11,ii s7.2.2.2),(12,ii (w64 (s7.2.2.2+(1:Int))))]) [(0,some q9),(3,some q10)] 4 (hN7 (s9.1,s9.2.1,(s7.2.2.1 ++ ([s9.2.2]:List Int)),(w64 (s7.2.2.2+(1:Int)))) _ _ _ (some_some hh) (el [some 0,some 3] (rens_sp kr (rp 0 (ri (rs (.sref 3 [] 0 (List.length (s7.2.2.1 ++ ([s9.2.2]:List Int))) 1) (ri rl_n))))) (hq q9 rz (hn nr_eI hs_nil))))))
   intro Q9 hN9 hR9 hE9
   refine Aw.sreg [0,1,5,6,7,25] [0,1] ?_
   let q11:Root:=⟨134,[bo (eI .u8) s8.1,ii s8.2.1]⟩; let z22:=(0,some q11)
   refine yjc 4 [(8:Int)≠0] (sp 60 [z4,z6,z18,z19,(7,ii s8.2.2),(18,ii s7.2.2.2),(19,ii (w64 (Int.tdiv s7.2.2.2 (8:Int)))),(20,bb (decide ((w64 (Int.tdiv s7.2.2.2 (8:Int)))=(1:Int)))),(21,bb (decide ((w64 (Int.tdiv s7.2.2.2 (8:Int)))=(1:Int))))]) [z22,z20] 2 (.cons dd .nil) ?_
   rcases cond_some hh with ⟨hb,hh⟩ | ⟨hb,hh⟩
   · refine yb 20 hb (yb 21 hb (yt (sp 60 [z4,z6,z18,z19,(7,ii s8.2.2),(25,bb true)]) [z22,z20] 2 (cT rfl (Aw.oreg (yu 1 [(26,pp 0)] [z22,z20] 2 ?_)))))
     obtain ⟨v10,hv10,hh⟩:=bind_some hh
     let z23:EH:=(0,some (rB134 v10.1)); let z24:=(28,bb (decide ((0:Int)<v10.2)))
     refine ys (.call 49 [(.t 26),(.c (ii 5))]) (some 27) (cf (ii v10.2) [z23] 2 [0] (__spec_l20Rd__pick_fn hv10) [pp 0,ii 5] rz (hq q11 rz hs_nil) ren_i (hq (rB134 v10.1) (rens_same (nr_B_134 _)) hs_nil) ?_)
     refine yu 2 [(27,ii v10.2),z24,(29,pp 0)] [z23,z3,z22,z20] 2 ?_
     obtain ⟨v11,hv11,hh⟩:=bind_some hh
     let z25:EH:=(0,some (rB134 v11.1)); let z26:=(31,bb (decide ((0:Int)<v11.2)))
     refine ys (.call 49 [(.t 29),(.c (ii 4))]) (some 30) (cf (ii v11.2) [z25] 2 [0] (__spec_l20Rd__pick_fn hv11) [pp 0,ii 4] rz (hq (rB134 v10.1) (rens_same (nr_B_134 _)) hs_nil) ren_i (hq (rB134 v11.1) (rens_same (nr_B_134 _)) hs_nil) ?_)
     refine yu 2 [(30,ii v11.2),z26,(32,pp 0)] [z25,z3,z23,z3,z22,z20] 2 ?_
     obtain ⟨v12,hv12,hh⟩:=bind_some hh
     let z27:EH:=(0,some (rB134 v12.1)); let z28:=(34,bb (decide ((0:Int)<v12.2)))
     refine ys (.call 49 [(.t 32),(.c (ii 3))]) (some 33) (cf (ii v12.2) [z27] 2 [0] (__spec_l20Rd__pick_fn hv12) [pp 0,ii 3] rz (hq (rB134 v11.1) (rens_same (nr_B_134 _)) hs_nil) ren_i (hq (rB134 v12.1) (rens_same (nr_B_134 _)) hs_nil) ?_)
     refine yu 2 [(33,ii v12.2),z28,(35,pp 0)] [z27,z3,z25,z3,z23,z3,z22,z20] 2 ?_
     obtain ⟨v13,hv13,hh⟩:=bind_some hh
     let z29:EH:=(0,some (rB134 v13.1)); let z30:EV:=(37,.agg [bb (decide ((0:Int)<v10.2)),bb (decide ((0:Int)<v11.2)),bb (decide ((0:Int)<v12.2)),ii v13.2])
     refine ys (.call 49 [(.t 35),(.c (ii 8))]) (some 36) (cf (ii v13.2) [z29] 2 [0] (__spec_l20Rd__pick_fn hv13) [pp 0,ii 8] rz (hq (rB134 v12.1) (rens_same (nr_B_134 _)) hs_nil) ren_i (hq (rB134 v13.1) (rens_same (nr_B_134 _)) hs_nil) ?_)
     refine yu 1 [(36,ii v13.2),z30] [z29,z3,z27,z3,z25,z3,z23,z3,z22,z20] 2 ?_
     obtain ⟨v14,hv14,hh⟩:=bind_some hh
     refine ys (.call 155 [(.t 37)]) (some 38) (oc (spec_EntryWord_fn hv14) ?_)
     refine ye (sp 60 [z4,z6,z18,z19,(7,ii v14),(25,bb true),(26,pp 0),(27,ii v10.2),z24,(29,pp 0),(30,ii v11.2),z26,(32,pp 0),(33,ii v12.2),z28,(35,pp 0),(36,ii v13.2),z30,(38,ii v14)]) [z29,z3,z27,z3,z25,z3,z23,z3,z22,z20] 2 ?_
     obtain rfl:=some_some hh
     exact hN9 (v13.1.b,v13.1.p,v14) _ _ _ hk9 (el [some 0,some 1] (rens_sp kr (rp 0 (ri (rs (sw 1 s7.2.2.1) (ri (ri rl_n)))))) (hq (rB134 v13.1) rz (hn nr_eI hs_nil)))
   refine yb 20 hb (yb 21 hb (ytc [(8:Int)≠0] (sp 60 [z4,z6,z18,z19,(7,ii s8.2.2),z17]) [z22,z20] 2 (.cons dd .nil) ?_))
   rcases cond_some hh with ⟨hb,hh⟩ | ⟨hb,hh⟩
   · refine cT hb (Aw.oreg (yu 1 [(26,pp 0)] [z22,z20] 2 ?_))
     obtain ⟨v15,hv15,hh⟩:=bind_some hh
     let z31:EH:=(0,some (rB134 v15.1)); let z32:=(28,bb (decide ((0:Int)<v15.2)))
     refine ys (.call 49 [(.t 26),(.c (ii 5))]) (some 27) (cf (ii v15.2) [z31] 2 [0] (__spec_l20Rd__pick_fn hv15) [pp 0,ii 5] rz (hq q11 rz hs_nil) ren_i (hq (rB134 v15.1) (rens_same (nr_B_134 _)) hs_nil) ?_)
     refine yu 2 [(27,ii v15.2),z32,(29,pp 0)] [z31,z3,z22,z20] 2 ?_
     obtain ⟨v16,hv16,hh⟩:=bind_some hh
     let z33:EH:=(0,some (rB134 v16.1)); let z34:=(31,bb (decide ((0:Int)<v16.2)))
     refine ys (.call 49 [(.t 29),(.c (ii 4))]) (some 30) (cf (ii v16.2) [z33] 2 [0] (__spec_l20Rd__pick_fn hv16) [pp 0,ii 4] rz (hq (rB134 v15.1) (rens_same (nr_B_134 _)) hs_nil) ren_i (hq (rB134 v16.1) (rens_same (nr_B_134 _)) hs_nil) ?_)
     refine yu 2 [(30,ii v16.2),z34,(32,pp 0)] [z33,z3,z31,z3,z22,z20] 2 ?_
     obtain ⟨v17,hv17,hh⟩:=bind_some hh
     let z35:EH:=(0,some (rB134 v17.1)); let z36:=(34,bb (decide ((0:Int)<v17.2)))
     refine ys (.call 49 [(.t 32),(.c (ii 3))]) (some 33) (cf (ii v17.2) [z35] 2 [0] (__spec_l20Rd__pick_fn hv17) [pp 0,ii 3] rz (hq (rB134 v16.1) (rens_same (nr_B_134 _)) hs_nil) ren_i (hq (rB134 v17.1) (rens_same (nr_B_134 _)) hs_nil) ?_)
     refine yu 2 [(33,ii v17.2),z36,(35,pp 0)] [z35,z3,z33,z3,z31,z3,z22,z20] 2 ?_
     obtain ⟨v18,hv18,hh⟩:=bind_some hh
     let z37:EH:=(0,some (rB134 v18.1)); let z38:EV:=(37,.agg [bb (decide ((0:Int)<v15.2)),bb (decide ((0:Int)<v16.2)),bb (decide ((0:Int)<v17.2)),ii v18.2])
     refine ys (.call 49 [(.t 35),(.c (ii 8))]) (some 36) (cf (ii v18.2) [z37] 2 [0] (__spec_l20Rd__pick_fn hv18) [pp 0,ii 8] rz (hq (rB134 v17.1) (rens_same (nr_B_134 _)) hs_nil) ren_i (hq (rB134 v18.1) (rens_same (nr_B_134 _)) hs_nil) ?_)
     refine yu 1 [(36,ii v18.2),z38] [z37,z3,z35,z3,z33,z3,z31,z3,z22,z20] 2 ?_
     obtain ⟨v19,hv19,hh⟩:=bind_some hh
     refine ys (.call 155 [(.t 37)]) (some 38) (oc (spec_EntryWord_fn hv19) ?_)
     refine ye (sp 60 [z4,z6,z18,z19,(7,ii v19),z17,(26,pp 0),(27,ii v15.2),z32,(29,pp 0),(30,ii v16.2),z34,(32,pp 0),(33,ii v17.2),z36,(35,pp 0),(36,ii v18.2),z38,(38,ii v19)]) [z37,z3,z35,z3,z33,z3,z31,z3,z22,z20] 2 ?_
     obtain rfl:=some_some hh
     exact hN9 (v18.1.b,v18.1.p,v19) _ _ _ hk9 (el [some 0,some 1] (rens_sp kr (rp 0 (ri (rs (sw 1 s7.2.2.1) (ri (ri rl_n)))))) (hq (rB134 v18.1) rz (hn nr_eI hs_nil)))
   refine cF hb (Aw.skip ?_)
   obtain rfl:=some_some hh
   exact hN9 (s8.1,s8.2.1,s8.2.2) _ _ _ hk9 (el [some 0,some 1] (rens_sp kr (rp 0 (ri (rs (sw 1 s7.2.2.1) (ri (ri rl_n)))))) (hq q11 rz (hn nr_eI hs_nil)))
 intro Q8 hN8 hR8 hE8
 refine Aw.sreg [0,1,5,6,7,15] [0,1] (yj 1  (sp 60 [z4,z6,z18,z19,(7,ii 0),(13,pp 0)]) [(0,some q7),z20] 2 ?_)
 obtain ⟨v20,hv20,hh⟩:=bind_some hh
 let z39:EH:=(0,some (rB134 v20.1)); let z40:=(15,bb (decide (v20.2=(0:Int))))
 refine ys (.call 49 [(.t 13),(.c (ii 2))]) (some 14) (cf (ii v20.2) [z39] 2 [0] (__spec_l20Rd__pick_fn hv20) [pp 0,ii 2] rz (hq q7 rz hs_nil) ren_i (hq (rB134 v20.1) (rens_same (nr_B_134 _)) hs_nil) ?_)
 refine yt (sp 60 [z4,z6,z18,z19,(7,ii 0),z40]) [z39,z20] 2 ?_
 rcases cond_sf hh with ⟨hb,hh⟩ | ⟨hb,hh⟩
 · refine cF hb (Aw.skip ?_)
   obtain rfl:=some_some hh
   exact hN8 (v20.1.b,v20.1.p,(0:Int)) _ _ _ hk8 (el [some 0,some 1] (rens_sp kr (rp 0 (ri (rs (sw 1 s7.2.2.1) (ri (ri rl_n)))))) (hq (rB134 v20.1) rz (hn nr_eI hs_nil)))
 refine cT hb (Aw.oreg (yu 1 [(16,pp 0)] [z39,z20] 2 ?_))
 obtain ⟨v21,hv21,hh⟩:=bind_some hh
 refine ys (.call 116 [(.t 16)]) (some 17) (cf (ii v21.2) [(0,some (rB134 v21.1))] 2 [0] (__spec_l20Rd__word_fn hv21) [pp 0] rz (hq (rB134 v20.1) (rens_same (nr_B_134 _)) hs_nil) ren_i (hq (rB134 v21.1) (rens_same (nr_B_134 _)) hs_nil) ?_)
 refine ye (sp 60 [z4,z6,z18,z19,(7,ii v21.2),z40,(16,pp 0),(17,ii v21.2)]) [(0,some (rB134 v21.1)),z3,z39,z20] 2 ?_
 obtain rfl:=some_some hh
 exact hN8 (v21.1.b,v21.1.p,v21.2) _ _ _ hk8 (el [some 0,some 1] (rens_sp kr (rp 0 (ri (rs (sw 1 s7.2.2.1) (ri (ri rl_n)))))) (hq (rB134 v21.1) rz (hn nr_eI hs_nil)))
theorem low_laws_alive:LW 16 ⟨6,[(.tmp 0)],(.seq (.reg false (rg 16 0)) (.seq (.reg false (rg 16 1)) .ret))⟩:=kr
noncomputable def F_laws_alive  : Option Bool :=
 Option.bind (F_impl_WordOk (5:Int)) fun v1 =>
 cond v1
  (Option.bind (F_impl_WordOk (-1:Int)) fun v2 =>
  some (!v2))
  (some false)
theorem laws_alive_fn  {R_:Bool} (hh:F_laws_alive  = some R_):Fn Try.prog 16 [] (.bool R_):=by
 unfold F_laws_alive at hh
 refine Fn.start low_laws_alive [] (E:=sp 6 []) kr (v:=bb R_) (Hr:=[]) (k:=0) kr (sy [] [] (sp 6 []) [] 0 (Aw.sreg [0] [] ?_))
 obtain ⟨v1,hv1,hh⟩:=bind_some hh
 refine ys (.call 68 [(.c (ii 5))]) (some 1) (oc (impl_WordOk_fn hv1) ?_)
 refine yu 1 [(1,bb v1),(2,bb v1)] [] 0 ?_
 rcases cond_sf hh with ⟨hb,hh⟩ | ⟨hb,hh⟩
 · exact yb 1 hb (yb 2 hb (yt (sp 6 [(0,bb false)]) [] 0 (Aw.ret (gvbs hh))))
 refine yb 1 hb (yb 2 hb ?_)
 obtain ⟨v2,hv2,hh⟩:=bind_some hh
 refine yg (.call 68 [(.c (ii (-1)))]) (some 3) 2 true (oc (impl_WordOk_fn hv2) ?_)
 exact yt (sp 6 [(0,bb (!v2))]) [] 0 (Aw.ret (gvbs hh))
end Go.Proofs.Ytbanbjdcgdmkaaa
