/- Plain functions of the program, and that it hands back what they say. Made by program. -/
import Derived.Test.YtbanbjdcgdmkaaaWT
import Derived.Test.YtbanbjdcgdmkaaaProg
import Derived.Test.YtbanbjdcgdmkaaaWHC1
import Derived.Test.YtbanbjdcgdmkaaaWHD1
import Derived.Test.YtbanbjdcgdmkaaaWHF1
import Derived.Test.YtbanbjdcgdmkaaaWHV1
import Derived.Test.YtbanbjdcgdmkaaaWO1
import Derived.Test.YtbanbjdcgdmkaaaWSO1
namespace Go.Proofs.Ytbanbjdcgdmkaaa
open Go.RowKit
set_option maxRecDepth 100000
set_option linter.all false
set_option maxHeartbeats 0
theorem low_impl_copiedHost:LW 84 ⟨10,[(.cell 2 true 2)],(.seq (.reg false (rg 84 0)) (.seq (.regd (rg 84 1) (rg 84 2)) .ret))⟩:=kr
noncomputable def F_impl_copiedHost (x_h:DHost):Option DHost :=
 Option.bind (F_impl_copied x_h.Words) fun v1 =>
 Option.bind (F_impl_copiedGuests x_h.Guests) fun v2 =>
 some (DHost.mk v1 v2)
theorem impl_copiedHost_fn {x_h:DHost} {R_:DHost} (hh:F_impl_copiedHost x_h=some R_):Fn Try.prog 84 [.agg (B_41 x_h)] (.agg [.own 3 1 (List.length R_.Words) (fl (eI .i64) R_.Words),.own 55 17 (List.length R_.Guests) (fl O_55 R_.Guests)]):=by
 let z1:EH:=(0,some (rB41 x_h)); let z2:EH:=(1,some ⟨41,[.nil,.nil]⟩)
 unfold F_impl_copiedHost at hh
 refine Fn.start low_impl_copiedHost [0] (E:=sp 10 [(0,.agg (B_41 x_h))]) kr (v:=.agg [sw 0 R_.Words,.sref 1 [] 0 (List.length R_.Guests) 17]) (Hr:=[(1,some (rO55 R_.Guests)),(0,some (rI_3 R_.Words))]) (k:=2) kr (sy [1,2] [0,1] (sp 10 [(1,pp 0),(2,pp 1)]) [z1,z2] 2 (Aw.sregd [2] [1,2,3] [] kr (dj 2 (sp 10 [(1,pp 0),(2,pp 1),(3,pp 0),(4,bo (eI .i64) x_h.Words)]) [z1,z2] 2 ?_)))
 obtain ⟨v1,hv1,hh⟩:=bind_some hh
 let z3:EH:=(2,some (rI_3 v1))
 refine ds (.call 123 [(.t 4)]) (some 5) (ydo_n rfl (op_call (r:=.own 3 1 (List.length v1) (fl (eI .i64) v1)) (v:=sw 2 v1) (Hr:=[z3]) (n':=3) (impl_copied_fn hv1) (clz_v (vs:=[bo (eI .i64) x_h.Words]) kr (clz_c (clo_same (clean_bor (cleans_fl cl_eI))) clz_n)) nrr nrr kr ⟨⟨agr_name (n:=2) (n0:=2) (r:=.own 3 1 (List.length v1) (fl (eI .i64) v1)) (v:=sw 2 v1) (Hr:=[z3]) (n':=3) kr dd,Hld.un ?_⟩⟩))
 refine dt (sp 10 [(1,pp 0),(2,pp 1),(3,pp 0),(4,bo (eI .i64) x_h.Words),(5,sw 2 v1),(6,.ptr 0 [] 1),(7,bo B_55 x_h.Guests)]) [z3,z1,z2] 3 ?_
 obtain ⟨v2,hv2,hh⟩:=bind_some hh
 refine ys (.call 138 [(.t 7)]) (some 8) (op_call (r:=.own 55 17 (List.length v2) (fl O_55 v2)) (v:=.sref 3 [] 0 (List.length v2) 17) (Hr:=[(3,some (rO55 v2))]) (n':=4) (impl_copiedGuests_fn hv2) (clz_v (vs:=[bo B_55 x_h.Guests]) kr (clz_c (clo_same (clean_bor (cleans_fl cl_B_55))) clz_n)) nrr nrr kr ?_)
 refine yt (sp 10 [(2,pp 1)]) [(1,some ⟨41,[sw 2 v1,.sref 3 [] 0 (List.length v2) 17]⟩),z3,(3,some (rO55 v2))] 4 (Aw.ret ?_)
 rw [some_some hh]
 exact gives (r':=.agg [sw 2 v1,.sref 3 [] 0 (List.length v2) 17]) kr (Ent.list [some 2,some 3] rfl rfl (Nat.zero_le _) (rens_1 (ren_agg rz)) (hn nr_O_55 (hn nr_eI hs_nil)))
theorem low_impl_inFrame:LW 87 ⟨44,[(.cell 8 true 2)],(.seq (.reg false (rg 87 0)) (.seq (.reg false (rg 87 1)) (.seq (.reg false (rg 87 2)) (.seq (.regd (rg 87 3) (rg 87 4)) (.seq (.regt (rg 87 5) (rg 87 6)) (.seq (.reg false (rg 87 7)) .ret))))))⟩:=kr
noncomputable def F_impl_inFrame (x_h:DHost) (x_g:Int) (x_page:Int) (x_frame:Int):Option DHost :=
 Option.bind (F_impl_copiedHost x_h) fun v1 =>
 grd ((0:Int)≤x_g∧x_g<((List.length x_h.Guests:Nat):Int)) (grd ((0:Int)≤x_page∧x_page<((List.length ((List.getD x_h.Guests (Int.toNat x_g) default).Pages):Nat):Int)) (Option.bind (F_impl_pageOf_p v1.Words x_frame) fun v2 =>
  grd (List.length v2.1=(List.length v1.Words)) (grd (v2.2.1+v2.2.2≤List.length v2.1) (Option.bind (F_impl_slotWords x_h.Words (DSlot.mk ((List.getD ((List.getD x_h.Guests (Int.toNat x_g) default).Pages) (Int.toNat x_page) default).Frame) ((List.getD ((List.getD x_h.Guests (Int.toNat x_g) default).Pages) (Int.toNat x_page) default).Write) ((List.getD ((List.getD x_h.Guests (Int.toNat x_g) default).Pages) (Int.toNat x_page) default).Dirty))) fun v3 =>
   grd ((0:Int)≤x_g∧x_g<(((List.length v1.Guests):Nat):Int)) (grd ((0:Int)≤x_page∧x_page<(((List.length ((List.getD v1.Guests (Int.toNat x_g) default).Pages)):Nat):Int)) (some (DHost.mk (over v2.1 v2.2.1 v2.2.2 v3) (List.set v1.Guests (Int.toNat x_g) (DGuest.mk ((List.getD v1.Guests (Int.toNat x_g) default).Live) (DCore.mk (((List.getD v1.Guests (Int.toNat x_g) default).C).Regs) (((List.getD v1.Guests (Int.toNat x_g) default).C).Pc) (((List.getD v1.Guests (Int.toNat x_g) default).C).Root) (((List.getD v1.Guests (Int.toNat x_g) default).C).Vector) (((List.getD v1.Guests (Int.toNat x_g) default).C).Saved) (((List.getD v1.Guests (Int.toNat x_g) default).C).SavedUser) (((List.getD v1.Guests (Int.toNat x_g) default).C).Cause) (((List.getD v1.Guests (Int.toNat x_g) default).C).Bad) (((List.getD v1.Guests (Int.toNat x_g) default).C).Timer) (((List.getD v1.Guests (Int.toNat x_g) default).C).Waits) (((List.getD v1.Guests (Int.toNat x_g) default).C).User) (((List.getD v1.Guests (Int.toNat x_g) default).C).On) (((List.getD v1.Guests (Int.toNat x_g) default).C).Stopped)) (List.set ((List.getD v1.Guests (Int.toNat x_g) default).Pages) (Int.toNat x_page) (DSlot.mk x_frame true ((List.getD ((List.getD x_h.Guests (Int.toNat x_g) default).Pages) (Int.toNat x_page) default).Dirty))) ((List.getD v1.Guests (Int.toNat x_g) default).In) ((List.getD v1.Guests (Int.toNat x_g) default).Out))))))))))
theorem impl_inFrame_fn {x_h:DHost} {x_g:Int} {x_page:Int} {x_frame:Int} {R_:DHost} (hh:F_impl_inFrame x_h x_g x_page x_frame=some R_):Fn Try.prog 87 [.agg (B_41 x_h),.int .i64 x_g,.int .i64 x_page,.int .i64 x_frame] (.agg [.own 3 1 (List.length R_.Words) (fl (eI .i64) R_.Words),.own 55 17 (List.length R_.Guests) (fl O_55 R_.Guests)]):=by
 let z7:EH:=(0,some (rB41 x_h)); let z8:=(1,ii x_g); let z9:EH:=(1,some ⟨41,[.nil,.nil]⟩); let z10:=(10,pp 5); let z11:=(2,ii x_page); let z12:=(3,ii x_frame); let z13:EV:=(34,.ptr 3 [] (0+(Int.toNat x_g)*17)); let z14:EV:=(35,.ptr 3 [] (0+(Int.toNat x_g)*17+14)); let z15:=(8,pp 1); let z16:=(9,pp 4); let z1:=List.getD x_h.Guests (Int.toNat x_g) default; let z3:=List.getD (z1.Pages) (Int.toNat x_page) default; let z4:=DSlot.mk x_frame true (z3.Dirty)
 unfold F_impl_inFrame at hh
 refine Fn.start low_impl_inFrame [0,1,2,3] (E:=sp 44 [(0,.agg (B_41 x_h)),z8,z11,z12]) kr (v:=.agg [sw 0 R_.Words,.sref 1 [] 0 (List.length R_.Guests) 17]) (Hr:=[(1,some (rO55 R_.Guests)),(0,some (rI_3 R_.Words))]) (k:=2) kr (sy [1,2,3,4,8] [0,1] (sp 44 [z8,z11,z12,(4,pp 0),z15]) [z7,z9] 2 (Aw.sreg [1,2,3,4,8,9] [0,1,2,3,4] (yu 1 [(11,.agg (B_41 x_h))] [z7,z9] 2 ?_)))
 obtain ⟨v1,hv1,hh⟩:=bind_some hh
 let z17:EV:=(32,.sref 3 [] 0 (List.length v1.Guests) 17); let z2:=List.getD v1.Guests (Int.toNat x_g) default; let z5:=List.set (z2.Pages) (Int.toNat x_page) z4; let z6:=DGuest.mk (z2.Live) (z2.C) z5 (z2.In) (z2.Out); let q1:Root:=(rO55 v1.Guests); let z18:=(3,some q1); let q2:Root:=(rI_3 v1.Words); let z19:=(2,some q2)
 refine ys (.call 84 [(.t 11)]) (some 12) (op_call (r:=.agg [.own 3 1 (List.length v1.Words) (fl (eI .i64) v1.Words),.own 55 17 (List.length v1.Guests) (fl O_55 v1.Guests)]) (v:=.agg [sw 2 v1.Words,.sref 3 [] 0 (List.length v1.Guests) 17]) (Hr:=[z18,z19]) (n':=4) (impl_copiedHost_fn hv1) (clz_v (vs:=[.agg (B_41 x_h)]) kr (clz_c (clo_same (clean_agg (cl_B_41 _))) clz_n)) nrr nrr kr ?_)
 let q3:Root:=⟨41,[sw 2 v1.Words,.sref 3 [] 0 (List.length v1.Guests) 17]⟩; let z20:=(4,some q3)
 refine yt (sp 44 [z8,z11,z12,(4,pp 0),z15,z16]) [z7,z9,z19,z18,z20] 5 (Aw.sreg [1,2,3,4,8,9,10] [0,1,2,3,4,5] (yu 3 [(13,.ptr 0 [] 1),(14,bo B_55 x_h.Guests),(15,ii x_g)] [z7,z9,z19,z18,z20] 5 ?_))
 obtain ⟨hg3,hh⟩:=grd_some hh
 refine ys (.iadr 17 (.t 14) (.t 15)) (some 16) (op_iadr (kd:=.i64) (c:=B_55) (xs:=x_h.Guests) len_B_55 dd kr kr hg3 ?_)
 refine yu 1 [(16,.bptr (fl B_55 x_h.Guests) (Int.toNat x_g*17)),(17,.bptr (fl B_55 x_h.Guests) (Int.toNat x_g*17+14))] [z7,z9,z19,z18,z20] 5 (ys (.load false 1 (.t 17)) (some 18) (op_loadb (c:=B_55) (xs:=x_h.Guests) (o:=Int.toNat x_g*17+14) (i:=(Int.toNat x_g)) (off:=14) (v:=bo C_52 (z1.Pages)) len_B_55 kr ltn ltn dd kr ?_))
 refine yu 1 [(18,bo C_52 (z1.Pages)),(19,ii x_page)] [z7,z9,z19,z18,z20] 5 ?_
 obtain ⟨hg4,hh⟩:=grd_some hh
 refine ys (.iadr 3 (.t 18) (.t 19)) (some 20) (op_iadr (kd:=.i64) (c:=C_52) (xs:=z1.Pages) len_C_52 dd kr kr hg4 ?_)
 refine ys (.load true 3 (.t 20)) (some 21) (op_loadbA (c:=C_52) (xs:=z1.Pages) (o:=Int.toNat x_page*3) (i:=(Int.toNat x_page)) (off:=0) (v:=.agg [ii (z3.Frame),bb (z3.Write),bb (z3.Dirty)]) len_C_52 kr ltn ltn dd kr ?_)
 let q4:Root:=⟨52,[ii (z3.Frame),bb (z3.Write),bb (z3.Dirty)]⟩; let z21:=(5,some q4)
 refine yt (sp 44 [z8,z11,z12,(4,pp 0),z15,z16,z10]) [z7,z9,z19,z18,z20,z21] 6 (Aw.sregd [1,2,3,8,9,10] [1,2,3,4,5] [2] kr (dj 3 (sp 44 [z8,z11,z12,(4,pp 0),z15,z16,z10,(22,pp 4),(23,sw 2 v1.Words),(24,ii x_frame)]) [z7,z9,z19,z18,z20,z21] 6 ?_))
 obtain ⟨v2,hv2,hh⟩:=bind_some hh
 let z22:EH:=(2,some (rI_3 v2.1))
 obtain ⟨hg7,hh⟩:=grd_some hh
 obtain ⟨hg8,hh⟩:=grd_some hh
 refine ds (.call 140 [(.t 23),(.t 24)]) (some 25) (ydo_n rfl (cf (.sref 2 [] (0+v2.2.1*1) v2.2.2 1) [z22] 6 [2] (impl_pageOf_p_fn hv2) [sw 2 v1.Words,ii x_frame] rz (hn nr_eI hs_nil) ren_sy (hn nr_eI hs_nil) ⟨⟨agr_callf rfl rfl,Hld.un ?_⟩⟩))
 refine dt (sp 44 [z8,z11,z12,(4,pp 0),z15,z16,z10,(22,pp 4),(23,sw 2 v1.Words),(24,ii x_frame),(25,.sref 2 [] (0+v2.2.1*1) v2.2.2 1),(26,pp 0),(27,bo (eI .i64) x_h.Words),(28,.agg [ii (z3.Frame),bb (z3.Write),bb (z3.Dirty)])]) [z22,(2,none),z7,z9,z19,z18,z20,z21] 6 ?_
 obtain ⟨v3,hv3,hh⟩:=bind_some hh
 refine ys (.call 141 [(.t 27),(.t 28)]) (some 29) (op_callp (r:=bo (eI .i64) v3) (v:=bo (eI .i64) v3) (Hr:=[]) (n':=6) (impl_slotWords_fn hv3) (clz_v (vs:=[bo (eI .i64) x_h.Words,.agg [ii (z3.Frame),bb (z3.Write),bb (z3.Dirty)]]) kr (clz_c (clo_same (clean_bor (cleans_fl cl_eI))) (cz1 clz_n))) nrr kr ?_)
 let q5:Root:=(rI_3 (over v2.1 v2.2.1 v2.2.2 v3)); let z23:=(2,some q5)
 refine ys (.cpy 1 (.t 25) (.t 29)) (some 30) (op_cpy (c:=(eI .i64)) (xs:=v2.1) (ys:=v3) (e:=3) (r:=2) (π:=[]) (o:=0+v2.2.1*1) (k:=v2.2.2) (i:=v2.2.1) (H':=[z23,z22,(2,none),z7,z9,z19,z18,z20,z21]) len_eI (rpv kr (rp_bor (c:=(eI .i64)) (xs:=v3) len_eI)) kr kr ltn ltn kr ?_)
 refine yt (sp 44 [z8,z11,z12,z15,z16,z10]) [z9,z23,z18,z20,z21] 6 (Aw.sregt [8,9] [1,2,3,4] ?_)
 obtain ⟨hg12,hh⟩:=grd_some hh
 refine qc (cs:=[(0:Int)≤x_g∧x_g<(((List.length v1.Guests):Nat):Int)]) (E':=(sp 44 [z8,z11,z12,z15,z16,z10,(31,.ptr 4 [] 1),z17,(33,ii x_g),z13,z14])) (pre:=(List.take 5 (rg 87 5))) (L':=(List.drop 5 (rg 87 5))) kr (fun K=>by kernel_rfl) (.cons hg12 .nil) (qs (.load false 1 (.t 35)) (some 36) (yq_q rfl (op_load (c:=O_55) (xs:=v1.Guests) (e:=55) (r:=3) (π:=[]) (o:=0+(Int.toNat x_g)*17+14) (i:=(Int.toNat x_g)) (off:=14) (v:=.sref 3 [0+(Int.toNat x_g)*17+14+0] 0 (List.length (z2.Pages)) 3) len_O_55 kr kr ltn ltn dd kr ?_)))
 obtain ⟨hg11,hh⟩:=grd_some hh
 refine qtt (cs:=[(0:Int)≤x_page∧x_page<(((List.length (z2.Pages)):Nat):Int)]) (E':=(sp 44 [z8,z11,z12,z15,z16,z10,(31,.ptr 4 [] 1),z17,(33,ii x_g),z13,z14,(36,.sref 3 [0+(Int.toNat x_g)*17+14+0] 0 (List.length (z2.Pages)) 3),(37,ii x_page),(38,ii x_frame),(39,.ptr 5 [] 2),(40,bb (z3.Dirty)),(41,.agg [ii x_frame,bb true,bb (z3.Dirty)]),(42,.ptr 3 [0+(Int.toNat x_g)*17+14+0] (0+(Int.toNat x_page)*3))])) (fun K=>by kernel_rfl) (.cons hg11 .nil) ?_
 let q6:Root:=(rO55 (List.set v1.Guests (Int.toNat x_g) z6))
 refine ys (.store 3 (.t 42) (.t 41)) none (op_store (c:=C_52) (xs:=z2.Pages) (e:=52) (r:=3) (π:=[0+(Int.toNat x_g)*17+14+0]) (o:=0+(Int.toNat x_page)*3) (i:=(Int.toNat x_page)) (off:=0) (vs:=[ii x_frame,bb true,bb (z3.Dirty)]) (y:=z4) (H':=[(3,some q6),z9,z23,z18,z20,z21]) len_C_52 kr kr kr (get_fl (e:=55) (e':=52) (sz':=3) (m':=(List.length (z2.Pages))) (cs':=(fl C_52 (z2.Pages))) (c:=O_55) (xs:=v1.Guests) (i:=(Int.toNat x_g)) (off:=14) len_O_55 kr ltn ltn dd rfl kr) ltn ltn dd kr (put_fl (e:=55) (e':=52) (sz':=3) (m':=(List.length (z2.Pages))) (cs':=(fl C_52 (z2.Pages))) (ds:=(fl C_52 z5)) (c:=O_55) (xs:=v1.Guests) (i:=(Int.toNat x_g)) (off:=14) (y:=z6) (m2:=(List.length z5)) len_O_55 kr ltn ltn dd rfl kr eqn kr rfl kr) ?_)
 refine yt (sp 44 [z15,z16]) [z9,z23,(3,some q6),z20] 6 (sy [8] [1,2,3] (sp 44 [z15]) [(1,some q3),z23,(3,some q6)] 6 (Aw.ret ?_))
 rw [some_some hh]
 exact gives (r':=.agg [sw 2 v1.Words,.sref 3 [] 0 (List.length v1.Guests) 17]) kr (Ent.list [some 2,some 3] rfl rfl (Nat.zero_le _) (rens_1 (ren_agg rz)) (hn nr_O_55 (hn nr_eI hs_nil)))
theorem low_impl_inFreeFrame:LW 85 ⟨23,[(.cell 6 true 2),(.tmp 7)],(.seq (.reg false (rg 85 0)) (.seq (.reg false (rg 85 1)) (.seq (.seq (.reg false (rg 85 2)) (.cond (.t 14) (.seq (.reg false (rg 85 3)) .ret) .skip)) (.seq (.regd (rg 85 4) (rg 85 5)) .ret))))⟩:=kr
noncomputable def F_impl_inFreeFrame (x_h:DHost) (x_g:Int) (x_page:Int):Option (DHost × Bool) :=
 Option.bind (F_impl_freeFrames x_h.Guests) fun v1 =>
 cond (decide ((((List.length v1):Nat):Int)=(0:Int)))
  (some ((DHost.mk ([]:List Int) ([]:List DGuest)),false))
  (grd ((0:Int)≤(0:Int)∧(0:Int)<(((List.length v1):Nat):Int)) (Option.bind (F_impl_inFrame x_h x_g x_page (List.getD v1 0 default)) fun v2 =>
   some (v2,true)))
theorem impl_inFreeFrame_fn {x_h:DHost} {x_g:Int} {x_page:Int} {R_:DHost × Bool} (hh:F_impl_inFreeFrame x_h x_g x_page=some R_):Fn Try.prog 85 [.agg (B_41 x_h),.int .i64 x_g,.int .i64 x_page] (.tup [.agg [.own 3 1 (List.length R_.1.Words) (fl (eI .i64) R_.1.Words),.own 55 17 (List.length R_.1.Guests) (fl O_55 R_.1.Guests)],.bool R_.2]):=by
 let z1:EH:=(0,some (rB41 x_h)); let z2:=(1,ii x_g); let z3:EH:=(1,some ⟨41,[.nil,.nil]⟩); let z4:=(2,ii x_page); let z5:=(6,pp 1)
 unfold F_impl_inFreeFrame at hh
 refine Fn.start low_impl_inFreeFrame [0,1,2] (E:=sp 23 [(0,.agg (B_41 x_h)),z2,z4]) kr (v:=.tup [.agg [sw 0 R_.1.Words,.sref 1 [] 0 (List.length R_.1.Guests) 17],bb R_.2]) (Hr:=[(1,some (rO55 R_.1.Guests)),(0,some (rI_3 R_.1.Words))]) (k:=2) kr (sy [1,2,3,6] [0,1] (sp 23 [z2,z4,(3,pp 0),z5]) [z1,z3] 2 (Aw.sreg [1,2,3,6,8] [0,1,2] (yu 2 [(9,.ptr 0 [] 1),(10,bo B_55 x_h.Guests)] [z1,z3] 2 ?_)))
 obtain ⟨v1,hv1,hh⟩:=bind_some hh
 let z6:=(14,bb (decide ((((List.length v1):Nat):Int)=(0:Int)))); let z7:EH:=(2,some (rI_3 v1))
 refine ys (.call 139 [(.t 10)]) (some 11) (op_call (r:=.own 3 1 (List.length v1) (fl (eI .i64) v1)) (v:=sw 2 v1) (Hr:=[z7]) (n':=3) (impl_freeFrames_fn hv1) (clz_v (vs:=[bo B_55 x_h.Guests]) kr (clz_c (clo_same (clean_bor (cleans_fl cl_B_55))) clz_n)) nrr nrr kr ?_)
 refine yt (sp 23 [z2,z4,(3,pp 0),z5,(8,sw 2 v1)]) [z1,z3,z7] 3 (Aw.seq (sy [1,2,3,6,8,14] [0,1,2] (sp 23 [z2,z4,(3,pp 0),z5,(8,sw 2 v1),z6]) [z1,z3,z7] 3 ?_))
 rcases cond_some hh with ⟨hb,hh⟩ | ⟨hb,hh⟩
 · refine cT hb (sy [6,7] [1] (sp 23 [z5,(7,bb false)]) [z3] 3 (Aw.ret (then_r ?_)))
   rw [some_some hh]
   exact gives (r':=.tup [.agg [.nil,.nil],bb false]) kr (Ent.list [none,none] rfl rfl (Nat.zero_le _) (rens_1 (ren_tup rz)) (hs_no dd rfl rfl (hs_no dd rfl rfl hs_nil)))
 refine cF hb (Aw.xskip (fun _ _ _ hq=>then_m hq) (Aw.sregd [6,7] [1,3,4] [] kr ?_))
 obtain ⟨hg2,hh⟩:=grd_some hh
 refine dc (cs:=[(0:Int)≤(0:Int)∧(0:Int)<(((List.length v1):Nat):Int)]) (E':=(sp 23 [z2,z4,(3,pp 0),z5,(8,sw 2 v1),z6,(16,.agg (B_41 x_h)),(17,ii x_g),(18,ii x_page),(19,sw 2 v1),(20,pp 2)])) (H':=[z1,z3,z7]) (n':=3) (fs':=none) (pre:=(List.take 5 (rg 85 4))) (L':=(List.drop 5 (rg 85 4))) kr (fun K=>by kernel_rfl) (.cons hg2 .nil) (ds (.load false 1 (.t 20)) (some 21) (ydo_q rfl kr (op_load (c:=(eI .i64)) (xs:=v1) (e:=3) (r:=2) (π:=[]) (o:=0) (i:=0) (off:=0) (v:=ii (List.getD v1 0 default)) len_eI kr kr ltn ltn dd kr ?_)))
 refine dt (sp 23 [z2,z4,(3,pp 0),z5,(8,sw 2 v1),z6,(16,.agg (B_41 x_h)),(17,ii x_g),(18,ii x_page),(19,sw 2 v1),(20,pp 2),(21,ii (List.getD v1 0 default))]) [z1,z3,z7] 3 ?_
 obtain ⟨v2,hv2,hh⟩:=bind_some hh
 let q1:Root:=(rO55 v2.Guests); let q2:Root:=(rI_3 v2.Words)
 refine ys (.call 87 [(.t 16),(.t 17),(.t 18),(.t 21)]) (some 22) (op_call (r:=.agg [.own 3 1 (List.length v2.Words) (fl (eI .i64) v2.Words),.own 55 17 (List.length v2.Guests) (fl O_55 v2.Guests)]) (v:=.agg [sw 3 v2.Words,.sref 4 [] 0 (List.length v2.Guests) 17]) (Hr:=[(4,some q1),(3,some q2)]) (n':=5) (impl_inFrame_fn hv2) (clz_v (vs:=[.agg (B_41 x_h),ii x_g,ii x_page,ii (List.getD v1 0 default)]) kr (clz_c (clo_same (clean_agg (cl_B_41 _))) (cz1 (cz1 (cz1 clz_n))))) nrr nrr kr ?_)
 refine yt (sp 23 [z5,(7,bb true)]) [(1,some ⟨41,[sw 3 v2.Words,.sref 4 [] 0 (List.length v2.Guests) 17]⟩),(3,some q2),(4,some q1)] 5 (Aw.ret ?_)
 rw [some_some hh]
 exact gives (r':=.tup [.agg [sw 3 v2.Words,.sref 4 [] 0 (List.length v2.Guests) 17],bb true]) kr (Ent.list [some 3,some 4] rfl rfl (Nat.zero_le _) (rens_1 (ren_tup rz)) (hn nr_O_55 (hn nr_eI hs_nil)))
theorem low_impl_HostFill:LW 25 ⟨37,[(.cell 6 true 2),(.tmp 7)],(.seq (.reg false (rg 25 0)) (.seq (.seq (.reg false (rg 25 1)) (.cond (.t 16) (.seq (.reg false (rg 25 2)) .ret) .skip)) (.seq (.seq (.reg false (rg 25 3)) (.cond (.t 28) (.seq (.reg false (rg 25 4)) .ret) .skip)) (.seq (.reg false (rg 25 5)) .ret))))⟩:=kr
noncomputable def F_impl_HostFill (x_h:DHost) (x_g:Int) (x_page:Int):Option (DHost × Bool) :=
 Option.bind (F_impl_hasGuest x_h x_g) fun v1 =>
 cond (!v1)
  (some ((DHost.mk ([]:List Int) ([]:List DGuest)),false))
  (Option.bind (F_impl_pageOk x_page) fun v2 =>
  cond (!v2)
   (some ((DHost.mk ([]:List Int) ([]:List DGuest)),false))
   (grd ((0:Int)≤x_g∧x_g<((List.length x_h.Guests:Nat):Int)) (grd ((0:Int)≤x_page∧x_page<((List.length ((List.getD x_h.Guests (Int.toNat x_g) default).Pages):Nat):Int)) (cond (!decide (((List.getD ((List.getD x_h.Guests (Int.toNat x_g) default).Pages) (Int.toNat x_page) default).Frame)=(-1:Int)))
    (Option.bind (F_impl_copiedHost x_h) fun v3 =>
    some (v3,true))
    (Option.bind (F_impl_inFreeFrame x_h x_g x_page) fun v4 =>
    some (v4.1,v4.2))))))
theorem impl_HostFill_fn {x_h:DHost} {x_g:Int} {x_page:Int} {R_:DHost × Bool} (hh:F_impl_HostFill x_h x_g x_page=some R_):Fn Try.prog 25 [.agg (B_41 x_h),.int .i64 x_g,.int .i64 x_page] (.tup [.agg [.own 3 1 (List.length R_.1.Words) (fl (eI .i64) R_.1.Words),.own 55 17 (List.length R_.1.Guests) (fl O_55 R_.1.Guests)],.bool R_.2]):=by
 let z3:EH:=(0,some (rB41 x_h)); let z4:=(1,ii x_g); let z5:EH:=(1,some ⟨41,[.nil,.nil]⟩); let z6:=(2,ii x_page); let z7:=(3,pp 0); let z8:=(6,pp 1); let z1:=List.getD x_h.Guests (Int.toNat x_g) default; let z2:=List.getD (z1.Pages) (Int.toNat x_page) default; let z9:=(28,bb (!decide ((z2.Frame)=(-1:Int))))
 unfold F_impl_HostFill at hh
 refine Fn.start low_impl_HostFill [0,1,2] (E:=sp 37 [(0,.agg (B_41 x_h)),z4,z6]) kr (v:=.tup [.agg [sw 0 R_.1.Words,.sref 1 [] 0 (List.length R_.1.Guests) 17],bb R_.2]) (Hr:=[(1,some (rO55 R_.1.Guests)),(0,some (rI_3 R_.1.Words))]) (k:=2) kr (sy [1,2,3,6] [0,1] (sp 37 [z4,z6,z7,z8]) [z3,z5] 2 (Aw.seq (Aw.sreg [1,2,3,6,16] [0,1] (yj 2  (sp 37 [z4,z6,z7,z8,(8,.agg (B_41 x_h)),(9,ii x_g)]) [z3,z5] 2 ?_))))
 obtain ⟨v1,hv1,hh⟩:=bind_some hh
 refine ys (.call 76 [(.t 8),(.t 9)]) (some 10) (op_call (r:=bb v1) (v:=bb v1) (Hr:=[]) (n':=2) (impl_hasGuest_fn hv1) (clz_v (vs:=[.agg (B_41 x_h),ii x_g]) kr (clz_c (clo_same (clean_agg (cl_B_41 _))) (cz1 clz_n))) rfl rfl kr ?_)
 refine yu 2 [(10,bb v1),(11,bb (!v1)),(12,bb (!v1))] [z3,z5] 2 ?_
 rcases cond_some hh with ⟨hb,hh⟩ | ⟨hb,hh⟩
 · refine yb 11 hb (yb 12 hb (yt (sp 37 [z4,z6,z7,z8,(16,bb true)]) [z3,z5] 2 (cT rfl (sy [6,7] [1] (sp 37 [z8,(7,bb false)]) [z5] 2 (Aw.ret (then_r ?_))))))
   rw [some_some hh]
   exact gives (r':=.tup [.agg [.nil,.nil],bb false]) kr (Ent.list [none,none] rfl rfl (Nat.zero_le _) (rens_1 (ren_tup rz)) (hs_no dd rfl rfl (hs_no dd rfl rfl hs_nil)))
 refine yb 11 hb (yb 12 hb (yu 1 [(11,bb false),(12,bb false),(13,ii x_page)] [z3,z5] 2 ?_))
 obtain ⟨v2,hv2,hh⟩:=bind_some hh
 refine yg (.call 83 [(.t 13)]) (some 14) 12 false (oc (impl_pageOk_fn hv2) ?_)
 refine yt (sp 37 [z4,z6,z7,z8,(16,bb (!v2))]) [z3,z5] 2 ?_
 rcases cond_some hh with ⟨hb,hh⟩ | ⟨hb,hh⟩
 · refine cT hb (sy [6,7] [1] (sp 37 [z8,(7,bb false)]) [z5] 2 (Aw.ret (then_r ?_)))
   rw [some_some hh]
   exact gives (r':=.tup [.agg [.nil,.nil],bb false]) kr (Ent.list [none,none] rfl rfl (Nat.zero_le _) (rens_1 (ren_tup rz)) (hs_no dd rfl rfl (hs_no dd rfl rfl hs_nil)))
 refine cF hb (Aw.xskip (fun _ _ _ hq=>then_m hq) (Aw.seq (Aw.sreg [1,2,3,6,28] [0,1] (yj 3  (sp 37 [z4,z6,z7,z8,(16,bb (!v2)),(18,.ptr 0 [] 1),(19,bo B_55 x_h.Guests),(20,ii x_g)]) [z3,z5] 2 ?_))))
 obtain ⟨hg7,hh⟩:=grd_some hh
 refine ys (.iadr 17 (.t 19) (.t 20)) (some 21) (op_iadr (kd:=.i64) (c:=B_55) (xs:=x_h.Guests) len_B_55 dd kr kr hg7 ?_)
 refine yu 1 [(21,.bptr (fl B_55 x_h.Guests) (Int.toNat x_g*17)),(22,.bptr (fl B_55 x_h.Guests) (Int.toNat x_g*17+14))] [z3,z5] 2 (ys (.load false 1 (.t 22)) (some 23) (op_loadb (c:=B_55) (xs:=x_h.Guests) (o:=Int.toNat x_g*17+14) (i:=(Int.toNat x_g)) (off:=14) (v:=bo C_52 (z1.Pages)) len_B_55 kr ltn ltn dd kr ?_))
 refine yu 1 [(23,bo C_52 (z1.Pages)),(24,ii x_page)] [z3,z5] 2 ?_
 obtain ⟨hg8,hh⟩:=grd_some hh
 refine ys (.iadr 3 (.t 23) (.t 24)) (some 25) (op_iadr (kd:=.i64) (c:=C_52) (xs:=z1.Pages) len_C_52 dd kr kr hg8 ?_)
 refine yu 1 [(25,.bptr (fl C_52 (z1.Pages)) (Int.toNat x_page*3)),(26,.bptr (fl C_52 (z1.Pages)) (Int.toNat x_page*3+0))] [z3,z5] 2 (ys (.load false 1 (.t 26)) (some 27) (op_loadb (c:=C_52) (xs:=z1.Pages) (o:=Int.toNat x_page*3+0) (i:=(Int.toNat x_page)) (off:=0) (v:=ii (z2.Frame)) len_C_52 kr ltn ltn dd kr ?_))
 refine yt (sp 37 [z4,z6,z7,z8,z9]) [z3,z5] 2 ?_
 rcases cond_some hh with ⟨hb,hh⟩ | ⟨hb,hh⟩
 · refine cT hb (Aw.sreg [6,7] [1,2,3] (yu 1 [(29,.agg (B_41 x_h))] [z3,z5] 2 ?_))
   obtain ⟨v3,hv3,hh⟩:=bind_some hh
   let q1:Root:=(rO55 v3.Guests); let q2:Root:=(rI_3 v3.Words)
   refine ys (.call 84 [(.t 29)]) (some 30) (op_call (r:=.agg [.own 3 1 (List.length v3.Words) (fl (eI .i64) v3.Words),.own 55 17 (List.length v3.Guests) (fl O_55 v3.Guests)]) (v:=.agg [sw 2 v3.Words,.sref 3 [] 0 (List.length v3.Guests) 17]) (Hr:=[(3,some q1),(2,some q2)]) (n':=4) (impl_copiedHost_fn hv3) (clz_v (vs:=[.agg (B_41 x_h)]) kr (clz_c (clo_same (clean_agg (cl_B_41 _))) clz_n)) nrr nrr kr ?_)
   refine yt (sp 37 [z8,(7,bb true)]) [(1,some ⟨41,[sw 2 v3.Words,.sref 3 [] 0 (List.length v3.Guests) 17]⟩),(2,some q2),(3,some q1)] 4 (Aw.ret (then_r ?_))
   rw [some_some hh]
   exact gives (r':=.tup [.agg [sw 2 v3.Words,.sref 3 [] 0 (List.length v3.Guests) 17],bb true]) kr (Ent.list [some 2,some 3] rfl rfl (Nat.zero_le _) (rens_1 (ren_tup rz)) (hn nr_O_55 (hn nr_eI hs_nil)))
 refine cF hb (Aw.xskip (fun _ _ _ hq=>then_m hq) (Aw.sreg [6,7] [1,2,3] (yj 3  (sp 37 [z4,z6,z7,z8,z9,(31,.agg (B_41 x_h)),(32,ii x_g),(33,ii x_page)]) [z3,z5] 2 ?_)))
 obtain ⟨v4,hv4,hh⟩:=bind_some hh
 let q3:Root:=(rO55 v4.1.Guests); let q4:Root:=(rI_3 v4.1.Words)
 refine ys (.call 85 [(.t 31),(.t 32),(.t 33)]) (some 34) (op_call (r:=.tup [.agg [.own 3 1 (List.length v4.1.Words) (fl (eI .i64) v4.1.Words),.own 55 17 (List.length v4.1.Guests) (fl O_55 v4.1.Guests)],bb v4.2]) (v:=.tup [.agg [sw 2 v4.1.Words,.sref 3 [] 0 (List.length v4.1.Guests) 17],bb v4.2]) (Hr:=[(3,some q3),(2,some q4)]) (n':=4) (impl_inFreeFrame_fn hv4) (clz_v (vs:=[.agg (B_41 x_h),ii x_g,ii x_page]) kr (clz_c (clo_same (clean_agg (cl_B_41 _))) (cz1 (cz1 clz_n)))) nrr nrr kr ?_)
 refine yt (sp 37 [z8,(7,bb v4.2)]) [(1,some ⟨41,[sw 2 v4.1.Words,.sref 3 [] 0 (List.length v4.1.Guests) 17]⟩),(2,some q4),(3,some q3)] 4 (Aw.ret ?_)
 rw [some_some hh]
 exact gives (r':=.tup [.agg [sw 2 v4.1.Words,.sref 3 [] 0 (List.length v4.1.Guests) 17],bb v4.2]) kr (Ent.list [some 2,some 3] rfl rfl (Nat.zero_le _) (rens_1 (ren_tup rz)) (hn nr_O_55 (hn nr_eI hs_nil)))
end Go.Proofs.Ytbanbjdcgdmkaaa
