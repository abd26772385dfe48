/- Plain functions of the program, and that it hands back what they say. Made by program. -/
import Derived.Test.YtbanbjdcgdmkaaaWT
import Derived.Test.YtbanbjdcgdmkaaaProg
import Derived.Test.YtbanbjdcgdmkaaaWD1
import Derived.Test.YtbanbjdcgdmkaaaWG1
import Derived.Test.YtbanbjdcgdmkaaaWGF1
namespace Go.Proofs.Ytbanbjdcgdmkaaa
open Go.RowKit
set_option maxRecDepth 100000
set_option linter.all false
set_option maxHeartbeats 0
theorem low_spec_DrawHostEmulate:LW 28 ⟨28,[(.cell 2 true 2),(.tmp 3),(.cell 4 true 3)],(.seq (.reg false (rg 28 0)) (.seq (.reg false (rg 28 1)) (.seq (.reg false (rg 28 2)) (.seq (.reg false (rg 28 3)) (.seq (.seq (.reg false (rg 28 4)) (.cond (.t 16) (.reg false (rg 28 5)) .skip)) (.seq (.regd (rg 28 6) (rg 28 7)) .ret))))))⟩:=kr
noncomputable def F_spec_DrawHostEmulate_j4 (v2:Dl20Rd × DHost) (v3:Dl20Rd × DIns) (s4:(List Int) × Int × Int):Option (DHost × Int × DIns) :=
 Option.bind (F_spec_l20At (Dl20Rd.mk s4.1 s4.2.1) v2.2) fun v5 =>
 grd (List.length v5.2.1=(List.length v2.2.Words)) (grd (List.length v5.2.2.1=(List.length v2.2.Guests)) (some ((DHost.mk v5.2.1 v5.2.2.1),v5.2.2.2,(DIns.mk s4.2.2 v3.2.A v3.2.N))))
noncomputable def F_spec_DrawHostEmulate (x_code:List Int):Option (DHost × Int × DIns) :=
 Option.bind (F_spec_l20Open x_code) fun v1 =>
 Option.bind (F_spec_l20Full v1) fun v2 =>
 Option.bind (F_spec_l20Ins v2.1 (15:Int)) fun v3 =>
 Option.bind (Option.bind (F___spec_l20Rd__pick v3.1 (3:Int)) fun v6 =>
  cond (decide ((0:Int)<v6.2))
   (Option.bind (F___spec_l20Rd__pick v6.1 (8:Int)) fun v7 =>
   grd ((0:Int)≤v7.2∧v7.2<((8:Nat):Int)) (some (.go (v7.1.b,v7.1.p,(List.getD ([(0:Int),(8:Int),(9:Int),(10:Int),(11:Int),(12:Int),(13:Int),(14:Int)]:List Int) (Int.toNat v7.2) default)))))
   (some (.go (v6.1.b,v6.1.p,v3.2.Op)))) fun j4 =>
  JO.run j4 (F_spec_DrawHostEmulate_j4 v2 v3)
theorem spec_DrawHostEmulate_fn {x_code:List Int} {R_:DHost × Int × DIns} (hh:F_spec_DrawHostEmulate x_code=some R_):Fn Try.prog 28 [bo (eI .u8) x_code] (.tup [.agg [.own 3 1 (List.length R_.1.Words) (fl (eI .i64) R_.1.Words),.own 55 17 (List.length R_.1.Guests) (fl O_55 R_.1.Guests)],.int .i64 R_.2.1,.agg [.int .i64 R_.2.2.Op,.int .i64 R_.2.2.A,.int .i64 R_.2.2.N]]):=by
 let z2:EH:=(0,some ⟨41,[.nil,.nil]⟩); let z3:EV:=(17,.sref 7 [] 0 8 1); let z4:=(2,pp 0); let z5:=(4,pp 1); let z6:=(5,pp 2); let z7:=(6,pp 5); let z8:=(7,pp 6)
 unfold F_spec_DrawHostEmulate at hh
 refine Fn.start low_spec_DrawHostEmulate [0] (E:=sp 28 [(0,bo (eI .u8) x_code)]) kr (v:=.tup [.agg [sw 0 R_.1.Words,.sref 1 [] 0 (List.length R_.1.Guests) 17],ii R_.2.1,.agg [ii R_.2.2.Op,ii R_.2.2.A,ii R_.2.2.N]]) (Hr:=[(1,some (rO55 R_.1.Guests)),(0,some (rI_3 R_.1.Words))]) (k:=2) kr (Aw.sreg [0,2,4] [0,1] ?_)
 let q1:Root:=⟨45,[ii 0,ii 0,ii 0]⟩; let z9:=(1,some q1)
 refine yt (sp 28 [(0,bo (eI .u8) x_code),z4,z5]) [z2,z9] 2 (Aw.sreg [2,4,5] [0,1,2] (yu 1 [(8,bo (eI .u8) x_code)] [z2,z9] 2 ?_))
 obtain ⟨v1,hv1,hh⟩:=bind_some hh
 let z10:EH:=(2,some (rB134 v1))
 refine ys (.call 47 [(.t 8)]) (some 9) (cf (pp 2) [z10] 3 [] (spec_l20Open_fn hv1) [bo (eI .u8) x_code] rz hs_nil (ren_p dd rfl) (hq (rB134 v1) (rens_same (nr_B_134 _)) hs_nil) ?_)
 refine yt (sp 28 [z4,z5,z6]) [z2,z9,z10] 3 (Aw.sreg [2,4,5,6] [0,1,2,3,4,5] (yu 1 [(10,pp 2)] [z2,z9,z10] 3 ?_))
 obtain ⟨v2,hv2,hh⟩:=bind_some hh
 let z11:EH:=(2,some (rB134 v2.1)); let z12:EV:=(23,.agg [sw 4 v2.2.Words,.sref 5 [] 0 (List.length v2.2.Guests) 17]); let z13:EV:=(25,.agg [sw 4 v2.2.Words,.sref 5 [] 0 (List.length v2.2.Guests) 17]); let q2:Root:=(rO55 v2.2.Guests); let z14:=(4,some q2); let q3:Root:=(rI_3 v2.2.Words); let z15:=(3,some q3)
 refine ys (.call 74 [(.t 10)]) (some 11) (cf (.agg [sw 3 v2.2.Words,.sref 4 [] 0 (List.length v2.2.Guests) 17]) [z14,z15,z11] 5 [2] (spec_l20Full_fn hv2) [pp 2] rz (hq (rB134 v1) (rens_same (nr_B_134 _)) hs_nil) (ren_agg rz) (hn nr_O_55 (hn nr_eI (hq (rB134 v2.1) (rens_same (nr_B_134 _)) hs_nil))) ?_)
 let q4:Root:=⟨41,[sw 3 v2.2.Words,.sref 4 [] 0 (List.length v2.2.Guests) 17]⟩; let z16:=(5,some q4)
 refine yt (sp 28 [z4,z5,z6,z7]) [z2,z9,z11,z15,z14,z16] 6 (Aw.sreg [2,4,5,6,7] [0,1,2,3,4,5,6] (yu 1 [(12,pp 2)] [z2,z9,z11,z15,z14,z16] 6 ?_))
 obtain ⟨v3,hv3,hh⟩:=bind_some hh
 let z17:EH:=(2,some (rB134 v3.1)); let z18:EH:=(6,some ⟨45,(C_45 v3.2)⟩)
 refine ys (.call 53 [(.t 12),(.c (ii 15))]) (some 13) (cf (.agg (C_45 v3.2)) [z17] 6 [2] (spec_l20Ins_fn hv3) [pp 2,ii 15] rz (hq (rB134 v2.1) (rens_same (nr_B_134 _)) hs_nil) (ren_agg (rens_same (nr_C_45 _))) (hq (rB134 v3.1) (rens_same (nr_B_134 _)) hs_nil) ?_)
 refine yt (sp 28 [z4,z5,z6,z7,z8]) [z2,z9,z17,z15,z14,z16,z18] 7 ?_
 obtain ⟨j4,hh,hk4⟩:=bind_some hh
 refine Aw.join (S:=(List Int) × Int × Int) (fun s4=>sp 28 [(2,pp 0),(4,pp 1),(5,pp 2),(6,pp 3),(7,pp 6)]) (fun s4=>[(0,some ⟨41,[.nil,.nil]⟩),(1,some ⟨45,[ii 0,ii 0,ii 0]⟩),(2,some ⟨134,[bo (eI .u8) s4.1,ii s4.2.1]⟩),(3,some ⟨41,[sw 4 v2.2.Words,.sref 5 [] 0 (List.length v2.2.Guests) 17]⟩),(4,some (rI_3 v2.2.Words)),(5,some (rO55 v2.2.Guests)),(6,some ⟨45,[ii s4.2.2,ii v3.2.A,ii v3.2.N]⟩)]) 7 (fun s4=>F_spec_DrawHostEmulate_j4 v2 v3 s4=some R_) ?_ ?_
 · intro s4 hh
   let z19:EV:=(27,.agg [ii s4.2.2,ii v3.2.A,ii v3.2.N])
   unfold F_spec_DrawHostEmulate_j4 at hh
   refine Aw.sregd [2,3,4] [0,1,4,5] [0,2,4,5] kr ?_
   let q5:Root:=⟨134,[bo (eI .u8) s4.1,ii s4.2.1]⟩; let q6:Root:=⟨41,[sw 4 v2.2.Words,.sref 5 [] 0 (List.length v2.2.Guests) 17]⟩; let q7:Root:=⟨45,[ii s4.2.2,ii v3.2.A,ii v3.2.N]⟩
   refine dj 3 (sp 28 [z4,z5,z6,(6,pp 3),z8,z12,(24,pp 2),z13]) [z2,z9,(2,some q5),(3,some q6),(4,some q3),(5,some q2),(6,some q7)] 7 ?_
   obtain ⟨v5,hv5,hh⟩:=bind_some hh
   let z20:EH:=(2,some (rB134 v5.1)); let z21:EH:=(5,some (rO55 v5.2.2.1))
   obtain ⟨hg7,hh⟩:=grd_some hh
   obtain ⟨hg8,hh⟩:=grd_some hh
   let q8:Root:=(rI_3 v5.2.1); let z22:=(4,some q8)
   refine ds (.call 75 [(.t 24),(.t 25)]) (some 26) (ydo_n rfl (cf (ii v5.2.2.2) [z20,z22,z21] 7 [2,4,5] (spec_l20At_fn hv5) [pp 2,.agg [sw 4 v2.2.Words,.sref 5 [] 0 (List.length v2.2.Guests) 17]] rz (hn nr_O_55 (hn nr_eI (hq q5 rz hs_nil))) ren_i (hq (rB134 v5.1) (rens_same (nr_B_134 _)) (hn nr_eI (hn nr_O_55 hs_nil))) ⟨⟨agr_callf rfl rfl,Hld.un ?_⟩⟩))
   refine dj 1 (sp 28 [z4,z5,z6,(6,pp 3),z8,z12,(24,pp 2),z13,(26,ii v5.2.2.2),z19]) [z20,z22,z21,(2,none),(4,none),(5,none),z2,z9,(2,some q5),(3,some q6),(4,some q3),(5,some q2),(6,some q7)] 7 (ds (.store 2 (.t 2) (.t 23)) none (ydo_n rfl (op_st (v:=.und) (H':=[(0,some q6),z20,z22,z21,(2,none),(4,none),(5,none),z2,z9,(2,some q5),(3,some q6),(4,some q3),(5,some q2),(6,some q7)]) (n':=7) (fun K=>by kernel_rfl) ⟨⟨agr_put dd,Hld.un ?_⟩⟩)))
   refine dt (sp 28 [z4,(3,ii v5.2.2.2),z5,z6,(6,pp 3),z8,z12,(24,pp 2),z13,(26,ii v5.2.2.2),z19]) [(0,some q6),z20,z22,z21,(2,none),(4,none),(5,none),z2,z9,(2,some q5),(3,some q6),(4,some q3),(5,some q2),(6,some q7)] 7 (yt (sp 28 [z4,(3,ii v5.2.2.2),z5]) [(0,some q6),(1,some q7),z22,z21] 7 (Aw.ret ?_))
   rw [some_some hh]
   exact gives (r':=.tup [.agg [sw 4 v2.2.Words,.sref 5 [] 0 (List.length v2.2.Guests) 17],ii v5.2.2.2,.agg [ii s4.2.2,ii v3.2.A,ii v3.2.N]]) kr (Ent.list [some 4,some 5] rfl rfl (Nat.zero_le _) (rens_1 (ren_tup rz)) (hn nr_O_55 (hn nr_eI hs_nil)))
 intro Q4 hN4 hR4 hE4
 refine Aw.sreg [2,4,5,6,7,16] [0,1,2,3,4,5,6] (yj 1  (sp 28 [z4,z5,z6,z7,z8,(14,pp 2)]) [z2,z9,z17,z15,z14,z16,z18] 7 ?_)
 obtain ⟨v6,hv6,hh⟩:=bind_some hh
 let z23:=(16,bb (decide ((0:Int)<v6.2))); let z24:EH:=(2,some (rB134 v6.1))
 refine ys (.call 49 [(.t 14),(.c (ii 3))]) (some 15) (cf (ii v6.2) [z24] 7 [2] (__spec_l20Rd__pick_fn hv6) [pp 2,ii 3] rz (hq (rB134 v3.1) (rens_same (nr_B_134 _)) hs_nil) ren_i (hq (rB134 v6.1) (rens_same (nr_B_134 _)) hs_nil) ?_)
 refine yt (sp 28 [z4,z5,z6,z7,z8,z23]) [z2,z9,z24,z15,z14,z16,z18] 7 ?_
 rcases cond_sf hh with ⟨hb,hh⟩ | ⟨hb,hh⟩
 · refine cF hb (Aw.skip ?_)
   obtain rfl:=some_some hh
   exact hN4 (v6.1.b,v6.1.p,v3.2.Op) _ _ _ hk4 (el [some 0,some 1,some 2,some 5,some 3,some 4,some 6] (rens_sp kr (rp 0 (rp 1 (rp 2 (rp 5 (rp 6 rl_n)))))) (hq ⟨41,[.nil,.nil]⟩ rz (hq q1 rz (hq (rB134 v6.1) rz (hq q4 rz (hn nr_eI (hn nr_O_55 (hq ⟨45,(C_45 v3.2)⟩ rz hs_nil))))))))
 refine cT hb (Aw.oreg ?_)
 let q9:Root:=⟨3,[ii 0,ii 8,ii 9,ii 10,ii 11,ii 12,ii 13,ii 14]⟩
 refine yu 2 [z3,(18,pp 2)] [(7,some q9),z2,z9,z24,z15,z14,z16,z18] 8 ?_
 obtain ⟨v7,hv7,hh⟩:=bind_some hh
 let z25:EH:=(2,some (rB134 v7.1)); let z26:EV:=(20,.ptr 7 [] (0+(Int.toNat v7.2)*1)); let z1:=List.getD ([(0:Int),(8:Int),(9:Int),(10:Int),(11:Int),(12:Int),(13:Int),(14:Int)]:List Int) (Int.toNat v7.2) default
 refine ys (.call 49 [(.t 18),(.c (ii 8))]) (some 19) (cf (ii v7.2) [z25] 8 [2] (__spec_l20Rd__pick_fn hv7) [pp 2,ii 8] rz (hq (rB134 v6.1) (rens_same (nr_B_134 _)) hs_nil) ren_i (hq (rB134 v7.1) (rens_same (nr_B_134 _)) hs_nil) ?_)
 obtain ⟨hg10,hh⟩:=grd_some hh
 refine yjc 1 [(0:Int)≤v7.2∧v7.2<((8:Nat):Int)] (sp 28 [z4,z5,z6,z7,z8,z23,z3,(18,pp 2),(19,ii v7.2),z26]) [z25,(2,none),(7,some q9),z2,z9,z24,z15,z14,z16,z18] 8 (.cons hg10 .nil) (ys (.load false 1 (.t 20)) (some 21) (op_load (c:=(eI .i64)) (xs:=([(0:Int),(8:Int),(9:Int),(10:Int),(11:Int),(12:Int),(13:Int),(14:Int)]:List Int)) (e:=3) (r:=7) (π:=[]) (o:=0+(Int.toNat v7.2)*1) (i:=(Int.toNat v7.2)) (off:=0) (v:=ii z1) len_eI kr kr ltn ltn dd kr ?_))
 let q10:Root:=⟨45,[ii z1,ii v3.2.A,ii v3.2.N]⟩
 refine ye (sp 28 [z4,z5,z6,z7,z8,z23,z3,(18,pp 2),(19,ii v7.2),z26,(21,ii z1),(22,pp 6)]) [(6,some q10),z25,(2,none),(7,some q9),z2,z9,z24,z15,z14,z16,z18] 8 ?_
 obtain rfl:=some_some hh
 exact hN4 (v7.1.b,v7.1.p,z1) _ _ _ hk4 (el [some 0,some 1,some 2,some 5,some 3,some 4,some 6] (rens_sp kr (rp 0 (rp 1 (rp 2 (rp 5 (rp 6 rl_n)))))) (hq ⟨41,[.nil,.nil]⟩ rz (hq q1 rz (hq (rB134 v7.1) rz (hq q4 rz (hn nr_eI (hn nr_O_55 (hq q10 rz hs_nil))))))))
end Go.Proofs.Ytbanbjdcgdmkaaa
