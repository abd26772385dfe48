/- Plain functions of the program, and that it hands back what they say. Made by program. -/
import Derived.Test.YtbanbjdcgdmkaaaWT
import Derived.Test.YtbanbjdcgdmkaaaProg
import Derived.Test.YtbanbjdcgdmkaaaWKT1
namespace Go.Proofs.Ytbanbjdcgdmkaaa
open Go.RowKit
set_option maxRecDepth 100000
set_option linter.all false
set_option maxHeartbeats 0
theorem low_spec_l3Plain:LW 64 ⟨89,[(.cell 4 true 13)],(.seq (.reg false (rg 64 0)) (.seq (.reg false (rg 64 1)) (.seq (.seq (.reg false (rg 64 2)) (.block 0 (.seq (.reg false (rg 64 3)) (.cond (.t 12) (.reg false (rg 64 4)) (.seq (.reg false (rg 64 5)) (.cond (.t 21) (.regt (rg 64 6) (rg 64 7)) (.seq (.reg false (rg 64 8)) (.cond (.t 43) (.regt (rg 64 9) (rg 64 10)) (.seq (.reg false (rg 64 11)) (.cond (.t 66) (.reg false (rg 64 12)) (.seq (.reg false (rg 64 13)) (.cond (.t 70) (.seq (.reg false (rg 64 14)) (.cond (.t 78) (.reg false (rg 64 15)) .skip)) (.seq (.reg false (rg 64 16)) (.cond (.t 81) (.seq (.reg false (rg 64 17)) .ret) .skip)))))))))))))) (.seq (.reg false (rg 64 18)) (.seq (.reg false (rg 64 19)) .ret)))))⟩:=kr
noncomputable def F_spec_l3Plain_j1 (x_c:DCore) (s1:(List Int) × Int):Option DCore :=
 some (DCore.mk s1.1 s1.2 x_c.Root x_c.Vector x_c.Saved x_c.SavedUser x_c.Cause x_c.Bad x_c.Timer x_c.Waits x_c.User x_c.On x_c.Stopped)
noncomputable def F_spec_l3Plain (x_c:DCore) (x_i:DIns):Option DCore :=
 Option.bind (cond (decide (x_i.Op=(1:Int)))
  (grd ((0:Int)≤x_i.A∧x_i.A<(((List.length x_c.Regs):Nat):Int)) (some (.go ((List.set x_c.Regs (Int.toNat x_i.A) x_i.N),(Int.tmod (w64 (x_c.Pc+(1:Int))) (64:Int))))))
  (cond (decide (x_i.Op=(2:Int)))
   (grd ((0:Int)≤x_i.A∧x_i.A<(((List.length x_c.Regs):Nat):Int)) (grd ((0:Int)≤(Int.tmod x_i.N (4:Int))∧(Int.tmod x_i.N (4:Int))<(((List.length x_c.Regs):Nat):Int)) (grd ((0:Int)≤x_i.A∧x_i.A<(((List.length x_c.Regs):Nat):Int)) (some (.go ((List.set x_c.Regs (Int.toNat x_i.A) (Int.tmod (w64 ((List.getD x_c.Regs (Int.toNat x_i.A) default)+(List.getD x_c.Regs (Int.toNat (Int.tmod x_i.N (4:Int))) default))) (4096:Int))),(Int.tmod (w64 (x_c.Pc+(1:Int))) (64:Int))))))))
   (cond (decide (x_i.Op=(15:Int)))
    (grd ((0:Int)≤x_i.A∧x_i.A<(((List.length x_c.Regs):Nat):Int)) (grd ((0:Int)≤(Int.tmod x_i.N (4:Int))∧(Int.tmod x_i.N (4:Int))<(((List.length x_c.Regs):Nat):Int)) (grd ((0:Int)≤x_i.A∧x_i.A<(((List.length x_c.Regs):Nat):Int)) (some (.go ((List.set x_c.Regs (Int.toNat x_i.A) (Int.tmod (w64 ((w64 ((List.getD x_c.Regs (Int.toNat x_i.A) default)+(4096:Int))) - (List.getD x_c.Regs (Int.toNat (Int.tmod x_i.N (4:Int))) default))) (4096:Int))),(Int.tmod (w64 (x_c.Pc+(1:Int))) (64:Int))))))))
    (cond (decide (x_i.Op=(5:Int)))
     (some (.go (x_c.Regs,x_i.N)))
     (cond (decide (x_i.Op=(6:Int)))
      (grd ((0:Int)≤x_i.A∧x_i.A<(((List.length x_c.Regs):Nat):Int)) (cond (!decide ((List.getD x_c.Regs (Int.toNat x_i.A) default)=(0:Int)))
       (some (.go (x_c.Regs,x_i.N)))
       (some (.go (x_c.Regs,(Int.tmod (w64 (x_c.Pc+(1:Int))) (64:Int)))))))
      (cond (decide (x_i.Op=(7:Int)))
       (Option.bind (F_spec_l3Trap x_c (Int.tmod (w64 (x_c.Pc+(1:Int))) (64:Int)) (1:Int) (0:Int)) fun v2 =>
       some (.out v2))
       (some (.go (x_c.Regs,(Int.tmod (w64 (x_c.Pc+(1:Int))) (64:Int))))))))))) fun j1 =>
  JO.run j1 (F_spec_l3Plain_j1 x_c)
theorem spec_l3Plain_fn {x_c:DCore} {x_i:DIns} {R_:DCore} (hh:F_spec_l3Plain x_c x_i=some R_):Inl Try.prog 64 [.agg (.sref 0 [] 0 (List.length x_c.Regs) 1::ru25 x_c []),.agg (C_45 x_i)] [(0,some (rI_3 x_c.Regs))] 1 (.agg (.sref 1 [] 0 (List.length R_.Regs) 1::ru25 R_ [])) [(1,some (rI_3 R_.Regs))] 2:=by
 let z6:=(11,ii x_i.Op); let z7:=(12,bb (decide (x_i.Op=(1:Int)))); let z8:=(2,pp 1); let z9:EH:=(2,some ⟨45,(C_45 x_i)⟩); let z10:EV:=(20,.ptr 0 [] (0+(Int.toNat x_i.A)*1)); let z11:=(21,bb (decide (x_i.Op=(2:Int)))); let z12:=(24,sw 0 x_c.Regs); let z13:EV:=(25,.ptr 2 [] 1); let z14:=(26,ii x_i.A); let z15:=(28,sw 0 x_c.Regs); let z16:EV:=(29,.ptr 2 [] 1); let z17:=(3,pp 2); let z18:EH:=(3,some ⟨25,(.nil::zru25 [])⟩); let z19:=(30,ii x_i.A); let z20:EV:=(31,.ptr 0 [] (0+(Int.toNat x_i.A)*1)); let z21:=(34,sw 0 x_c.Regs); let z22:=(37,ii (Int.tmod x_i.N (4:Int))); let z23:EV:=(38,.ptr 0 [] (0+(Int.toNat (Int.tmod x_i.N (4:Int)))*1)); let z24:=(4,pp 3); let z25:EV:=(42,.ptr 0 [] (0+(Int.toNat x_i.A)*1)); let z26:=(43,bb (decide (x_i.Op=(15:Int)))); let z27:=(46,sw 0 x_c.Regs); let z28:EV:=(47,.ptr 2 [] 1); let z29:=(48,ii x_i.A); let z30:=(5,ii (Int.tmod (w64 (x_c.Pc+(1:Int))) (64:Int))); let z31:=(50,sw 0 x_c.Regs); let z32:EV:=(51,.ptr 2 [] 1); let z33:=(52,ii x_i.A); let z34:EV:=(53,.ptr 0 [] (0+(Int.toNat x_i.A)*1)); let z35:=(57,sw 0 x_c.Regs); let z36:=(60,ii (Int.tmod x_i.N (4:Int))); let z37:EV:=(61,.ptr 0 [] (0+(Int.toNat (Int.tmod x_i.N (4:Int)))*1)); let z38:EV:=(65,.ptr 0 [] (0+(Int.toNat x_i.A)*1)); let z39:=(66,bb (decide (x_i.Op=(5:Int)))); let z40:=(70,bb (decide (x_i.Op=(6:Int)))); let z1:=List.getD x_c.Regs (Int.toNat (Int.tmod x_i.N (4:Int))) default; let z2:=List.getD x_c.Regs (Int.toNat x_i.A) default; let z41:=(41,ii (Int.tmod (w64 (z2+z1)) (4096:Int))); let z42:=(55,ii (w64 (z2+(4096:Int)))); let z43:=(63,ii (w64 ((w64 (z2+(4096:Int))) - z1))); let z44:=(64,ii (Int.tmod (w64 ((w64 (z2+(4096:Int))) - z1)) (4096:Int))); let z45:=(78,bb (!decide (z2=(0:Int)))); let z4:=List.set x_c.Regs (Int.toNat x_i.A) (Int.tmod (w64 ((w64 (z2+(4096:Int))) - z1)) (4096:Int))
 let z5:=List.set x_c.Regs (Int.toNat x_i.A) (Int.tmod (w64 (z2+z1)) (4096:Int)); let z3:=List.set x_c.Regs (Int.toNat x_i.A) x_i.N
 unfold F_spec_l3Plain at hh
 let q1:Root:=(rI_3 x_c.Regs); let z46:=(0,some q1)
 refine Inl.start low_spec_l3Plain [0,1] [0] (E:=sp 89 [(0,.agg (sw 0 x_c.Regs::ru25 x_c [])),(1,.agg (C_45 x_i))]) (H1:=[z46]) kr kr (Aw.sreg [2,3,4] [0,1,2,3] ?_)
 let q2:Root:=⟨25,(sw 0 x_c.Regs::ru25 x_c [])⟩; let z47:=(1,some q2)
 refine yt (sp 89 [z8,z17,z24]) [z46,z47,z9,z18] 4 (Aw.sreg [2,3,4,5] [0,1,2,3] (ytc [(64:Int)≠0] (sp 89 [z8,z17,z24,z30]) [z46,z47,z9,z18] 4 (.cons dd .nil) ?_))
 obtain ⟨j1,hh,hk1⟩:=bind_some hh
 refine Aw.join (S:=(List Int) × Int) (fun s1=>sp 89 [(2,pp 2),(4,pp 3),(5,ii s1.2)]) (fun s1=>[(1,some (rI_3 s1.1)),(2,some ⟨25,(sw 1 s1.1::ru25 x_c [])⟩),(3,some ⟨25,(.nil::zru25 [])⟩)]) 4 (fun s1=>F_spec_l3Plain_j1 x_c s1=some R_) ?_ ?_
 · intro s1 hh
   let z48:EH:=(1,some (rI_3 s1.1))
   unfold F_spec_l3Plain_j1 at hh
   refine Aw.sreg [2,4] [1,2,3] ?_
   let q3:Root:=⟨25,[sw 1 s1.1,ii s1.2,ii x_c.Root,ii x_c.Vector,ii x_c.Saved,bb x_c.SavedUser,ii x_c.Cause,ii x_c.Bad,ii x_c.Timer,bb x_c.Waits,bb x_c.User,bb x_c.On,bb x_c.Stopped]⟩
   refine yt (sp 89 [(2,pp 2),z24]) [z48,(2,some q3),z18] 4 (sy [4] [1,3] (sp 89 [z24]) [z48,(3,some q3)] 4 (Aw.ret ?_))
   rw [some_some hh]
   exact gives (r':=.agg [sw 1 s1.1,ii s1.2,ii x_c.Root,ii x_c.Vector,ii x_c.Saved,bb x_c.SavedUser,ii x_c.Cause,ii x_c.Bad,ii x_c.Timer,bb x_c.Waits,bb x_c.User,bb x_c.On,bb x_c.Stopped]) kr (el [some 0,some 1] (rens_1 (ren_agg rz)) (hn nr_eI hs_nil))
 intro Q1 hN1 hR1 hE1
 refine sy [2,3,4,5,11] [0,1,2,3] (sp 89 [z8,z17,z24,z30,z6]) [z46,z47,z9,z18] 4 (Aw.block (sy [2,3,4,5,11,12] [0,1,2,3] (sp 89 [z8,z17,z24,z30,z6,z7]) [z46,z47,z9,z18] 4 ?_))
 rcases cond_some hh with ⟨hb,hh⟩ | ⟨hb,hh⟩
 · refine cT hb (Aw.oreg ?_)
   obtain ⟨hg34,hh⟩:=grd_some hh
   refine yjc 7 [(0:Int)≤x_i.A∧x_i.A<(((List.length x_c.Regs):Nat):Int)] (sp 89 [z8,z17,z24,z30,z6,z7,(14,pp 1),(15,sw 0 x_c.Regs),(16,.ptr 2 [] 1),(17,ii x_i.A),(18,.ptr 2 [] 2),(19,ii x_i.N),z10]) [z46,z47,z9,z18] 4 (.cons hg34 .nil) ?_
   let q4:Root:=(rI_3 z3)
   refine ys (.store 1 (.t 20) (.t 19)) none (op_store (c:=(eI .i64)) (xs:=x_c.Regs) (e:=3) (r:=0) (π:=[]) (o:=0+(Int.toNat x_i.A)*1) (i:=(Int.toNat x_i.A)) (off:=0) (vs:=[ii x_i.N]) (y:=x_i.N) (H':=[(0,some q4),z46,z47,z9,z18]) len_eI kr kr kr kr ltn ltn dd kr kr ?_)
   refine ye (sp 89 [z8,z17,z24,z30,z6,z7,(14,pp 1),(15,sw 0 x_c.Regs),(16,.ptr 2 [] 1),(17,ii x_i.A),(18,.ptr 2 [] 2),(19,ii x_i.N),z10]) [(0,some q4),z46,z47,z9,z18] 4 (blk_m ?_)
   obtain rfl:=some_some hh
   exact hN1 (z3,(Int.tmod (w64 (x_c.Pc+(1:Int))) (64:Int))) _ _ _ hk1 (el [some 0,some 0,some 1,some 3] (rens_sp kr (rp 1 (rp 3 (ri rl_n)))) (hn nr_eI (hq q2 rz (hq ⟨25,(.nil::zru25 [])⟩ rz hs_nil))))
 refine cF hb (sy [2,3,4,5,11,21] [0,1,2,3] (sp 89 [z8,z17,z24,z30,z6,z11]) [z46,z47,z9,z18] 4 ?_)
 rcases cond_some hh with ⟨hb,hh⟩ | ⟨hb,hh⟩
 · refine cT hb (Aw.oregt ?_)
   obtain ⟨hg40,hh⟩:=grd_some hh
   refine qc (cs:=[(0:Int)≤x_i.A∧x_i.A<(((List.length x_c.Regs):Nat):Int)]) (E':=(sp 89 [z8,z17,z24,z30,z6,z11,(23,pp 1),z12,z13,z14,(27,pp 1),z15,z16,z19,z20])) (pre:=(List.take 9 (rg 64 6))) (L':=(List.drop 9 (rg 64 6))) kr (fun K=>by kernel_rfl) (.cons hg40 .nil) (qs (.load false 1 (.t 31)) (some 32) (yq_q rfl (op_load (c:=(eI .i64)) (xs:=x_c.Regs) (e:=3) (r:=0) (π:=[]) (o:=0+(Int.toNat x_i.A)*1) (i:=(Int.toNat x_i.A)) (off:=0) (v:=ii z2) len_eI kr kr ltn ltn dd kr ?_)))
   obtain ⟨hg39,hh⟩:=grd_some hh
   refine qc (cs:=[(4:Int)≠0,(0:Int)≤(Int.tmod x_i.N (4:Int))∧(Int.tmod x_i.N (4:Int))<(((List.length x_c.Regs):Nat):Int)]) (E':=(sp 89 [z8,z17,z24,z30,z6,z11,(23,pp 1),z12,z13,z14,(27,pp 1),z15,z16,z19,z20,(32,ii z2),(33,pp 1),z21,(35,.ptr 2 [] 2),(36,ii x_i.N),z22,z23])) (pre:=(List.take 6 (List.drop 10 (rg 64 6)))) (L':=(List.drop 16 (rg 64 6))) kr (fun K=>by kernel_rfl) (.cons dd (.cons hg39 .nil)) (qs (.load false 1 (.t 38)) (some 39) (yq_q rfl (op_load (c:=(eI .i64)) (xs:=x_c.Regs) (e:=3) (r:=0) (π:=[]) (o:=0+(Int.toNat (Int.tmod x_i.N (4:Int)))*1) (i:=(Int.toNat (Int.tmod x_i.N (4:Int)))) (off:=0) (v:=ii z1) len_eI kr kr ltn ltn dd kr ?_)))
   obtain ⟨hg38,hh⟩:=grd_some hh
   refine qtt (cs:=[(4096:Int)≠0,(0:Int)≤x_i.A∧x_i.A<(((List.length x_c.Regs):Nat):Int)]) (E':=(sp 89 [z8,z17,z24,z30,z6,z11,(23,pp 1),z12,z13,z14,(27,pp 1),z15,z16,z19,z20,(32,ii z2),(33,pp 1),z21,(35,.ptr 2 [] 2),(36,ii x_i.N),z22,z23,(39,ii z1),(40,ii (w64 (z2+z1))),z41,z25])) (fun K=>by kernel_rfl) (.cons dd (.cons hg38 .nil)) ?_
   let q5:Root:=(rI_3 z5)
   refine ys (.store 1 (.t 42) (.t 41)) none (op_store (c:=(eI .i64)) (xs:=x_c.Regs) (e:=3) (r:=0) (π:=[]) (o:=0+(Int.toNat x_i.A)*1) (i:=(Int.toNat x_i.A)) (off:=0) (vs:=[ii (Int.tmod (w64 (z2+z1)) (4096:Int))]) (y:=(Int.tmod (w64 (z2+z1)) (4096:Int))) (H':=[(0,some q5),z46,z47,z9,z18]) len_eI kr kr kr kr ltn ltn dd kr kr ?_)
   refine ye (sp 89 [z8,z17,z24,z30,z6,z11,(23,pp 1),z12,z13,z14,(27,pp 1),z15,z16,z19,z20,(32,ii z2),(33,pp 1),z21,(35,.ptr 2 [] 2),(36,ii x_i.N),z22,z23,(39,ii z1),(40,ii (w64 (z2+z1))),z41,z25]) [(0,some q5),z46,z47,z9,z18] 4 (blk_m ?_)
   obtain rfl:=some_some hh
   exact hN1 (z5,(Int.tmod (w64 (x_c.Pc+(1:Int))) (64:Int))) _ _ _ hk1 (el [some 0,some 0,some 1,some 3] (rens_sp kr (rp 1 (rp 3 (ri rl_n)))) (hn nr_eI (hq q2 rz (hq ⟨25,(.nil::zru25 [])⟩ rz hs_nil))))
 refine cF hb (sy [2,3,4,5,11,43] [0,1,2,3] (sp 89 [z8,z17,z24,z30,z6,z26]) [z46,z47,z9,z18] 4 ?_)
 rcases cond_some hh with ⟨hb,hh⟩ | ⟨hb,hh⟩
 · refine cT hb (Aw.oregt ?_)
   obtain ⟨hg46,hh⟩:=grd_some hh
   refine qc (cs:=[(0:Int)≤x_i.A∧x_i.A<(((List.length x_c.Regs):Nat):Int)]) (E':=(sp 89 [z8,z17,z24,z30,z6,z26,(45,pp 1),z27,z28,z29,(49,pp 1),z31,z32,z33,z34])) (pre:=(List.take 9 (rg 64 9))) (L':=(List.drop 9 (rg 64 9))) kr (fun K=>by kernel_rfl) (.cons hg46 .nil) (qs (.load false 1 (.t 53)) (some 54) (yq_q rfl (op_load (c:=(eI .i64)) (xs:=x_c.Regs) (e:=3) (r:=0) (π:=[]) (o:=0+(Int.toNat x_i.A)*1) (i:=(Int.toNat x_i.A)) (off:=0) (v:=ii z2) len_eI kr kr ltn ltn dd kr ?_)))
   obtain ⟨hg45,hh⟩:=grd_some hh
   refine qc (cs:=[(4:Int)≠0,(0:Int)≤(Int.tmod x_i.N (4:Int))∧(Int.tmod x_i.N (4:Int))<(((List.length x_c.Regs):Nat):Int)]) (E':=(sp 89 [z8,z17,z24,z30,z6,z26,(45,pp 1),z27,z28,z29,(49,pp 1),z31,z32,z33,z34,(54,ii z2),z42,(56,pp 1),z35,(58,.ptr 2 [] 2),(59,ii x_i.N),z36,z37])) (pre:=(List.take 7 (List.drop 10 (rg 64 9)))) (L':=(List.drop 17 (rg 64 9))) kr (fun K=>by kernel_rfl) (.cons dd (.cons hg45 .nil)) (qs (.load false 1 (.t 61)) (some 62) (yq_q rfl (op_load (c:=(eI .i64)) (xs:=x_c.Regs) (e:=3) (r:=0) (π:=[]) (o:=0+(Int.toNat (Int.tmod x_i.N (4:Int)))*1) (i:=(Int.toNat (Int.tmod x_i.N (4:Int)))) (off:=0) (v:=ii z1) len_eI kr kr ltn ltn dd kr ?_)))
   obtain ⟨hg44,hh⟩:=grd_some hh
   refine qtt (cs:=[(4096:Int)≠0,(0:Int)≤x_i.A∧x_i.A<(((List.length x_c.Regs):Nat):Int)]) (E':=(sp 89 [z8,z17,z24,z30,z6,z26,(45,pp 1),z27,z28,z29,(49,pp 1),z31,z32,z33,z34,(54,ii z2),z42,(56,pp 1),z35,(58,.ptr 2 [] 2),(59,ii x_i.N),z36,z37,(62,ii z1),z43,z44,z38])) (fun K=>by kernel_rfl) (.cons dd (.cons hg44 .nil)) ?_
   let q6:Root:=(rI_3 z4)
   refine ys (.store 1 (.t 65) (.t 64)) none (op_store (c:=(eI .i64)) (xs:=x_c.Regs) (e:=3) (r:=0) (π:=[]) (o:=0+(Int.toNat x_i.A)*1) (i:=(Int.toNat x_i.A)) (off:=0) (vs:=[ii (Int.tmod (w64 ((w64 (z2+(4096:Int))) - z1)) (4096:Int))]) (y:=(Int.tmod (w64 ((w64 (z2+(4096:Int))) - z1)) (4096:Int))) (H':=[(0,some q6),z46,z47,z9,z18]) len_eI kr kr kr kr ltn ltn dd kr kr ?_)
   refine ye (sp 89 [z8,z17,z24,z30,z6,z26,(45,pp 1),z27,z28,z29,(49,pp 1),z31,z32,z33,z34,(54,ii z2),z42,(56,pp 1),z35,(58,.ptr 2 [] 2),(59,ii x_i.N),z36,z37,(62,ii z1),z43,z44,z38]) [(0,some q6),z46,z47,z9,z18] 4 (blk_m ?_)
   obtain rfl:=some_some hh
   exact hN1 (z4,(Int.tmod (w64 (x_c.Pc+(1:Int))) (64:Int))) _ _ _ hk1 (el [some 0,some 0,some 1,some 3] (rens_sp kr (rp 1 (rp 3 (ri rl_n)))) (hn nr_eI (hq q2 rz (hq ⟨25,(.nil::zru25 [])⟩ rz hs_nil))))
 refine cF hb (sy [2,3,4,5,11,66] [0,1,2,3] (sp 89 [z8,z17,z24,z30,z6,z39]) [z46,z47,z9,z18] 4 ?_)
 rcases cond_some hh with ⟨hb,hh⟩ | ⟨hb,hh⟩
 · refine cT hb (Aw.oreg (ye (sp 89 [z8,z17,z24,(5,ii x_i.N),z6,z39,(68,.ptr 2 [] 2),(69,ii x_i.N)]) [z46,z47,z9,z18] 4 (blk_m ?_)))
   obtain rfl:=some_some hh
   exact hN1 (x_c.Regs,x_i.N) _ _ _ hk1 (el [some 0,some 0,some 1,some 3] (rens_sp kr (rp 1 (rp 3 (ri rl_n)))) (hn nr_eI (hq q2 rz (hq ⟨25,(.nil::zru25 [])⟩ rz hs_nil))))
 refine cF hb (sy [2,3,4,5,11,70] [0,1,2,3] (sp 89 [z8,z17,z24,z30,z6,z40]) [z46,z47,z9,z18] 4 ?_)
 rcases cond_sf hh with ⟨hb,hh⟩ | ⟨hb,hh⟩
 · refine cF hb (sy [2,4,5,81] [0,1,3] (sp 89 [z8,z24,z30,(81,bb (decide (x_i.Op=(7:Int))))]) [z46,z47,z18] 4 ?_)
   rcases cond_sf hh with ⟨hb,hh⟩ | ⟨hb,hh⟩
   · refine cF hb (Aw.skip (blk_m ?_))
     obtain rfl:=some_some hh
     exact hN1 (x_c.Regs,(Int.tmod (w64 (x_c.Pc+(1:Int))) (64:Int))) _ _ _ hk1 (el [some 0,some 0,some 1,some 3] (rens_sp kr (rp 1 (rp 3 (ri rl_n)))) (hn nr_eI (hq q2 rz (hq ⟨25,(.nil::zru25 [])⟩ rz hs_nil))))
   refine cT hb (Aw.sreg [4] [3,4] (yu 2 [(83,.agg (sw 0 x_c.Regs::ru25 x_c [])),(84,ii (Int.tmod (w64 (x_c.Pc+(1:Int))) (64:Int)))] [z46,z47,z18] 4 ?_))
   obtain ⟨v2,hv2,hh⟩:=bind_some hh
   let q7:Root:=(rI_3 v2.Regs)
   refine ys (.call 60 [(.t 83),(.t 84),(.c (ii 1)),(.c (ii 0))]) (some 85) (cf (.agg (sw 4 v2.Regs::ru25 v2 [])) [(4,some q7)] 5 [0] (spec_l3Trap_fn hv2) [.agg (sw 0 x_c.Regs::ru25 x_c []),ii (Int.tmod (w64 (x_c.Pc+(1:Int))) (64:Int)),ii 1,ii 0] rz (hn nr_eI hs_nil) (ren_agg rz) (hn nr_eI hs_nil) ?_)
   refine yt (sp 89 [z24]) [(3,some ⟨25,(sw 4 v2.Regs::ru25 v2 [])⟩),(4,some q7)] 5 (Aw.ret (blk_r ?_))
   obtain rfl:=some_some hh
   refine hR1 _ _ _ ?_
   rw [some_some hk1]
   exact gives (r':=.agg (sw 4 v2.Regs::ru25 v2 [])) kr (el [some 0,some 4] (rens_1 (ren_agg rz)) (hn nr_eI hs_nil))
 refine cT hb (Aw.sreg [2,3,4,5,78] [0,1,2,3] ?_)
 obtain ⟨hg48,hh⟩:=grd_some hh
 refine yjc 5 [(0:Int)≤x_i.A∧x_i.A<(((List.length x_c.Regs):Nat):Int)] (sp 89 [z8,z17,z24,z30,z6,z40,(72,pp 1),(73,sw 0 x_c.Regs),(74,.ptr 2 [] 1),(75,ii x_i.A),(76,.ptr 0 [] (0+(Int.toNat x_i.A)*1))]) [z46,z47,z9,z18] 4 (.cons hg48 .nil) (ys (.load false 1 (.t 76)) (some 77) (op_load (c:=(eI .i64)) (xs:=x_c.Regs) (e:=3) (r:=0) (π:=[]) (o:=0+(Int.toNat x_i.A)*1) (i:=(Int.toNat x_i.A)) (off:=0) (v:=ii z2) len_eI kr kr ltn ltn dd kr ?_))
 refine yt (sp 89 [z8,z17,z24,z30,z45]) [z46,z47,z9,z18] 4 ?_
 rcases cond_sf hh with ⟨hb,hh⟩ | ⟨hb,hh⟩
 · refine cF hb (Aw.skip (blk_m ?_))
   obtain rfl:=some_some hh
   exact hN1 (x_c.Regs,(Int.tmod (w64 (x_c.Pc+(1:Int))) (64:Int))) _ _ _ hk1 (el [some 0,some 0,some 1,some 3] (rens_sp kr (rp 1 (rp 3 (ri rl_n)))) (hn nr_eI (hq q2 rz (hq ⟨25,(.nil::zru25 [])⟩ rz hs_nil))))
 refine cT hb (Aw.oreg (ye (sp 89 [z8,z17,z24,(5,ii x_i.N),z45,(79,.ptr 2 [] 2),(80,ii x_i.N)]) [z46,z47,z9,z18] 4 (blk_m ?_)))
 obtain rfl:=some_some hh
 exact hN1 (x_c.Regs,x_i.N) _ _ _ hk1 (el [some 0,some 0,some 1,some 3] (rens_sp kr (rp 1 (rp 3 (ri rl_n)))) (hn nr_eI (hq q2 rz (hq ⟨25,(.nil::zru25 [])⟩ rz hs_nil))))
end Go.Proofs.Ytbanbjdcgdmkaaa
