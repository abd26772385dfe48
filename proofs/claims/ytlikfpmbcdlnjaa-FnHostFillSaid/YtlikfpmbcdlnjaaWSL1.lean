/- Plain functions of the program, and that it hands back what they say. Made by program. -/
import Derived.Test.YtlikfpmbcdlnjaaWT
import Derived.Test.YtlikfpmbcdlnjaaProg
import Derived.Test.YtlikfpmbcdlnjaaWHC1
import Derived.Test.YtlikfpmbcdlnjaaWHD1
import Derived.Test.YtlikfpmbcdlnjaaWHF1
import Derived.Test.YtlikfpmbcdlnjaaWHV1
import Derived.Test.YtlikfpmbcdlnjaaWO1
import Derived.Test.YtlikfpmbcdlnjaaWSO1
namespace Go.Proofs.Ytlikfpmbcdlnjaa
open Go.RowKit
set_option maxRecDepth 100000
set_option linter.all false
set_option maxHeartbeats 0
def Lf101_r0:List LOper:=[oX 1 26 0,oo 2 (.fresh 26 [.nil,.nil])]
def Lf101_r1:List LOper:=[oA 3 0 1,ol 4 3,oK 5 124 [4],oA 6 1 1,ol 7 6]
def Lf101_r1t:List LOper:=[oK 8 135 [7],oo 9 (.bld [.nil,.nil] [(0,(1,(.t 5))),(1,(1,(.t 8)))]),oS 2 2 9]
def Lf101:LFun:=⟨10,[(.cell 2 true 2)],(.seq (.reg false Lf101_r0) (.seq (.regd Lf101_r1 Lf101_r1t) .ret))⟩
theorem low_impl_copiedHost:lowFun Go.Proofs.Try.prog 101=some Lf101:=by kernel_rfl
noncomputable def F_impl_copiedHost (x_h:DHost):Option DHost :=
 Option.bind (F_impl_copied x_h.Words) fun v1 =>
 Option.bind (F_impl_copiedGuests x_h.Guests) fun v2 =>
 some (DHost.mk v1 v2)
theorem impl_copiedHost_fn {x_h:DHost} {R_:DHost} (hh:F_impl_copiedHost x_h=some R_):Fn Try.prog 101 [.agg (B_26 x_h)] (.agg [.own 3 1 (List.length R_.Words) (fl (eI .i64) R_.Words),.own 53 17 (List.length R_.Guests) (fl O_53 R_.Guests)]):=by
 let z1:EH:=(0,some ⟨26,(B_26 x_h)⟩); let z2:EH:=(1,some ⟨26,[.nil,.nil]⟩)
 unfold F_impl_copiedHost at hh
 refine Fn.start low_impl_copiedHost [0] (E:=sp 10 [(0,.agg (B_26 x_h))]) kr (v:=.agg [sw 0 R_.Words,.sref 1 [] 0 (List.length R_.Guests) 17]) (Hr:=[(1,some ⟨53,(fl O_53 R_.Guests)⟩),(0,some ⟨3,(fl (eI .i64) R_.Words)⟩)]) (k:=2) kr (sy [1,2] [0,1] (sp 10 [(1,pp 0),(2,pp 1)]) [z1,z2] 2 (Aw.sregd [2] [1,2,3] [] kr (dc (cs:=[]) (E':=(sp 10 [(1,pp 0),(2,pp 1),(3,pp 0),(4,bo (eI .i64) x_h.Words)])) (H':=[z1,z2]) (n':=2) (fs':=none) (pre:=(List.take 2 Lf101_r1)) (L':=(List.drop 2 Lf101_r1)) kr (fun K=>by kernel_rfl) .nil ?_)))
 obtain ⟨v1,hv1,hh⟩:=bind_some hh
 let z3:EH:=(2,some ⟨3,(fl (eI .i64) v1)⟩)
 refine ds (.call 124 [(.t 4)]) (some 5) (ydo_n rfl (op_call (r:=.own 3 1 (List.length v1) (fl (eI .i64) v1)) (v:=sw 2 v1) (Hr:=[z3]) (n':=3) (impl_copied_fn hv1) (clz_v (vs:=[bo (eI .i64) x_h.Words]) kr (clz_c (clo_same (clean_bor (cleans_fl cl_eI))) clz_n)) (by simp only [AV.noRef,noRefs,Bool.and_self,noRefs_fl nr_eI]) (by simp only [AV.noBor,noBors,Bool.and_self,noBors_fl nb_eI]) kr ⟨⟨agr_name (n:=2) (n0:=2) (r:=.own 3 1 (List.length v1) (fl (eI .i64) v1)) (v:=sw 2 v1) (Hr:=[z3]) (n':=3) kr dd,Hld.un ?_⟩⟩))
 refine dct (cs:=[]) (E':=(sp 10 [(1,pp 0),(2,pp 1),(3,pp 0),(4,bo (eI .i64) x_h.Words),(5,sw 2 v1),(6,.ptr 0 [] 1),(7,bo B_53 x_h.Guests)])) (H':=[z3,z1,z2]) (n':=3) (fun K=>by kernel_rfl) .nil ?_
 obtain ⟨v2,hv2,hh⟩:=bind_some hh
 refine ys (.call 135 [(.t 7)]) (some 8) (op_call (r:=.own 53 17 (List.length v2) (fl O_53 v2)) (v:=.sref 3 [] 0 (List.length v2) 17) (Hr:=[(3,some ⟨53,(fl O_53 v2)⟩)]) (n':=4) (impl_copiedGuests_fn hv2) (clz_v (vs:=[bo B_53 x_h.Guests]) kr (clz_c (clo_same (clean_bor (cleans_fl cl_B_53))) clz_n)) (by simp only [AV.noRef,noRefs,Bool.and_self,noRefs_fl nr_O_53]) (by simp only [AV.noBor,noBors,Bool.and_self,noBors_fl nb_O_53]) kr ?_)
 refine yt (sp 10 [(2,pp 1)]) [(1,some ⟨26,[sw 2 v1,.sref 3 [] 0 (List.length v2) 17]⟩),z3,(3,some ⟨53,(fl O_53 v2)⟩)] 4 (Aw.ret ?_)
 rw [some_some hh]
 exact gives (r':=.agg [sw 2 v1,.sref 3 [] 0 (List.length v2) 17]) kr (Ent.list [some 2,some 3] rfl rfl (Nat.zero_le _) (rens_1 (ren_agg rz)) (hn nr_O_53 (hn nr_eI hs_nil)))
def Lf104_r0:List LOper:=[oX 4 26 0,oo 8 (.fresh 26 [.nil,.nil])]
def Lf104_r1:List LOper:=[oL 11 2 4,oK 12 101 [11],oo 9 (.fresh 26 [.nil,.nil]),oS 2 9 12]
def Lf104_r2:List LOper:=[oA 13 1 4,ol 14 13,om 15 1,oi 16 17 14 15,oA 17 14 16,ol 18 17,om 19 2,oi 20 3 18 19,oL 21 3 20,oo 10 (.fresh 50 [(ii 0),(bb false),(bb false)]),oS 3 10 21]
def Lf104_r3:List LOper:=[oA 22 0 9,ol 23 22,om 24 3,oK 25 134 [23,24],oA 26 0 4,ol 27 26,oL 28 3 10]
def Lf104_r3t:List LOper:=[oK 29 142 [27,28],oo 30 (.cpy 1 (.t 25) (.t 29))]
def Lf104_r5:List LOper:=[oA 31 1 9,ol 32 31,om 33 1,oi 34 17 32 33,oA 35 14 34,ol 36 35,om 37 2,om 38 3,oA 39 2 10,ol 40 39,oo 41 (.bld [(ii 0),(bb false),(bb false)] [(0,(1,(.t 38))),(1,(1,(.c (bb true)))),(2,(1,(.t 40)))]),oi 42 3 36 37]
def Lf104_r5t:List LOper:=[oS 3 42 41]
def Lf104_r7:List LOper:=[oL 43 2 9,oS 2 8 43]
def Lf104:LFun:=⟨44,[(.cell 8 true 2)],(.seq (.reg false Lf104_r0) (.seq (.reg false Lf104_r1) (.seq (.reg false Lf104_r2) (.seq (.regd Lf104_r3 Lf104_r3t) (.seq (.regt Lf104_r5 Lf104_r5t) (.seq (.reg false Lf104_r7) .ret))))))⟩
theorem low_impl_inFrame:lowFun Go.Proofs.Try.prog 104=some Lf104:=by kernel_rfl
noncomputable def F_impl_inFrame (x_h:DHost) (x_g:Int) (x_page:Int) (x_frame:Int):Option DHost :=
 Option.bind (F_impl_copiedHost x_h) fun v1 =>
 grd ((0:Int)≤x_g∧x_g<((List.length x_h.Guests:Nat):Int)) (grd ((0:Int)≤x_page∧x_page<((List.length ((List.getD x_h.Guests (Int.toNat x_g) default).Pages):Nat):Int)) (Option.bind (F_impl_pageOf_p v1.Words x_frame) fun v2 =>
  grd (List.length v2.1=(List.length v1.Words)) (grd (v2.2.1+v2.2.2≤List.length v2.1) (Option.bind (F_impl_slotWords x_h.Words (DSlot.mk ((List.getD ((List.getD x_h.Guests (Int.toNat x_g) default).Pages) (Int.toNat x_page) default).Frame) ((List.getD ((List.getD x_h.Guests (Int.toNat x_g) default).Pages) (Int.toNat x_page) default).Write) ((List.getD ((List.getD x_h.Guests (Int.toNat x_g) default).Pages) (Int.toNat x_page) default).Dirty))) fun v3 =>
   grd ((0:Int)≤x_g∧x_g<(((List.length v1.Guests):Nat):Int)) (grd ((0:Int)≤x_page∧x_page<(((List.length ((List.getD v1.Guests (Int.toNat x_g) default).Pages)):Nat):Int)) (some (DHost.mk (over v2.1 v2.2.1 v2.2.2 v3) (List.set v1.Guests (Int.toNat x_g) (DGuest.mk ((List.getD v1.Guests (Int.toNat x_g) default).Live) (DCore.mk (((List.getD v1.Guests (Int.toNat x_g) default).C).Regs) (((List.getD v1.Guests (Int.toNat x_g) default).C).Pc) (((List.getD v1.Guests (Int.toNat x_g) default).C).Root) (((List.getD v1.Guests (Int.toNat x_g) default).C).Vector) (((List.getD v1.Guests (Int.toNat x_g) default).C).Saved) (((List.getD v1.Guests (Int.toNat x_g) default).C).SavedUser) (((List.getD v1.Guests (Int.toNat x_g) default).C).Cause) (((List.getD v1.Guests (Int.toNat x_g) default).C).Bad) (((List.getD v1.Guests (Int.toNat x_g) default).C).Timer) (((List.getD v1.Guests (Int.toNat x_g) default).C).Waits) (((List.getD v1.Guests (Int.toNat x_g) default).C).User) (((List.getD v1.Guests (Int.toNat x_g) default).C).On) (((List.getD v1.Guests (Int.toNat x_g) default).C).Stopped)) (List.set ((List.getD v1.Guests (Int.toNat x_g) default).Pages) (Int.toNat x_page) (DSlot.mk x_frame true ((List.getD ((List.getD x_h.Guests (Int.toNat x_g) default).Pages) (Int.toNat x_page) default).Dirty))) ((List.getD v1.Guests (Int.toNat x_g) default).In) ((List.getD v1.Guests (Int.toNat x_g) default).Out))))))))))
theorem impl_inFrame_fn {x_h:DHost} {x_g:Int} {x_page:Int} {x_frame:Int} {R_:DHost} (hh:F_impl_inFrame x_h x_g x_page x_frame=some R_):Fn Try.prog 104 [.agg (B_26 x_h),.int .i64 x_g,.int .i64 x_page,.int .i64 x_frame] (.agg [.own 3 1 (List.length R_.Words) (fl (eI .i64) R_.Words),.own 53 17 (List.length R_.Guests) (fl O_53 R_.Guests)]):=by
 let z7:EH:=(0,some ⟨26,(B_26 x_h)⟩); let z8:=(1,ii x_g); let z9:EH:=(1,some ⟨26,[.nil,.nil]⟩); let z10:=(10,pp 5); let z11:=(2,ii x_page); let z12:=(3,ii x_frame); let z13:EV:=(34,.ptr 3 [] (0+(Int.toNat x_g)*17)); let z14:EV:=(35,.ptr 3 [] (0+(Int.toNat x_g)*17+14)); let z15:=(8,pp 1); let z16:=(9,pp 4); let z1:=List.getD x_h.Guests (Int.toNat x_g) default; let z3:=List.getD (z1.Pages) (Int.toNat x_page) default; let z4:=DSlot.mk x_frame true (z3.Dirty)
 unfold F_impl_inFrame at hh
 refine Fn.start low_impl_inFrame [0,1,2,3] (E:=sp 44 [(0,.agg (B_26 x_h)),z8,z11,z12]) kr (v:=.agg [sw 0 R_.Words,.sref 1 [] 0 (List.length R_.Guests) 17]) (Hr:=[(1,some ⟨53,(fl O_53 R_.Guests)⟩),(0,some ⟨3,(fl (eI .i64) R_.Words)⟩)]) (k:=2) kr (sy [1,2,3,4,8] [0,1] (sp 44 [z8,z11,z12,(4,pp 0),z15]) [z7,z9] 2 (Aw.sreg [1,2,3,4,8,9] [0,1,2,3,4] (yu 1 [(11,.agg (B_26 x_h))] [z7,z9] 2 ?_)))
 obtain ⟨v1,hv1,hh⟩:=bind_some hh
 let z17:EV:=(32,.sref 3 [] 0 (List.length v1.Guests) 17); let z2:=List.getD v1.Guests (Int.toNat x_g) default; let z5:=List.set (z2.Pages) (Int.toNat x_page) z4; let z6:=DGuest.mk (z2.Live) (z2.C) z5 (z2.In) (z2.Out); let q1:Root:=⟨53,(fl O_53 v1.Guests)⟩; let z18:=(3,some q1); let q2:Root:=⟨3,(fl (eI .i64) v1.Words)⟩; let z19:=(2,some q2)
 refine ys (.call 101 [(.t 11)]) (some 12) (op_call (r:=.agg [.own 3 1 (List.length v1.Words) (fl (eI .i64) v1.Words),.own 53 17 (List.length v1.Guests) (fl O_53 v1.Guests)]) (v:=.agg [sw 2 v1.Words,.sref 3 [] 0 (List.length v1.Guests) 17]) (Hr:=[z18,z19]) (n':=4) (impl_copiedHost_fn hv1) (clz_v (vs:=[.agg (B_26 x_h)]) kr (clz_c (clo_same (clean_agg (cl_B_26 _))) clz_n)) (by simp only [AV.noRef,noRefs,Bool.and_self,noRefs_fl nr_eI,noRefs_fl nr_O_53]) (by simp only [AV.noBor,noBors,Bool.and_self,noBors_fl nb_eI,noBors_fl nb_O_53]) kr ?_)
 let q3:Root:=⟨26,[sw 2 v1.Words,.sref 3 [] 0 (List.length v1.Guests) 17]⟩; let z20:=(4,some q3)
 refine yt (sp 44 [z8,z11,z12,(4,pp 0),z15,z16]) [z7,z9,z19,z18,z20] 5 (Aw.sreg [1,2,3,4,8,9,10] [0,1,2,3,4,5] (yu 3 [(13,.ptr 0 [] 1),(14,bo B_53 x_h.Guests),(15,ii x_g)] [z7,z9,z19,z18,z20] 5 ?_))
 obtain ⟨hg3,hh⟩:=grd_some hh
 refine ys (.iadr 17 (.t 14) (.t 15)) (some 16) (op_iadr (kd:=.i64) (c:=B_53) (xs:=x_h.Guests) len_B_53 dd kr kr hg3 ?_)
 refine yu 1 [(16,.bptr (fl B_53 x_h.Guests) (Int.toNat x_g*17)),(17,.bptr (fl B_53 x_h.Guests) (Int.toNat x_g*17+14))] [z7,z9,z19,z18,z20] 5 (ys (.load false 1 (.t 17)) (some 18) (op_loadb (c:=B_53) (xs:=x_h.Guests) (o:=Int.toNat x_g*17+14) (i:=(Int.toNat x_g)) (off:=14) (v:=bo C_50 (z1.Pages)) len_B_53 kr ltn ltn dd kr ?_))
 refine yu 1 [(18,bo C_50 (z1.Pages)),(19,ii x_page)] [z7,z9,z19,z18,z20] 5 ?_
 obtain ⟨hg4,hh⟩:=grd_some hh
 refine ys (.iadr 3 (.t 18) (.t 19)) (some 20) (op_iadr (kd:=.i64) (c:=C_50) (xs:=z1.Pages) len_C_50 dd kr kr hg4 ?_)
 refine ys (.load true 3 (.t 20)) (some 21) (op_loadbA (c:=C_50) (xs:=z1.Pages) (o:=Int.toNat x_page*3) (i:=(Int.toNat x_page)) (off:=0) (v:=.agg [ii (z3.Frame),bb (z3.Write),bb (z3.Dirty)]) len_C_50 kr ltn ltn dd kr ?_)
 let q4:Root:=⟨50,[ii (z3.Frame),bb (z3.Write),bb (z3.Dirty)]⟩; let z21:=(5,some q4)
 refine yt (sp 44 [z8,z11,z12,(4,pp 0),z15,z16,z10]) [z7,z9,z19,z18,z20,z21] 6 (Aw.sregd [1,2,3,8,9,10] [1,2,3,4,5] [2] kr (dc (cs:=[]) (E':=(sp 44 [z8,z11,z12,(4,pp 0),z15,z16,z10,(22,pp 4),(23,sw 2 v1.Words),(24,ii x_frame)])) (H':=[z7,z9,z19,z18,z20,z21]) (n':=6) (fs':=none) (pre:=(List.take 3 Lf104_r3)) (L':=(List.drop 3 Lf104_r3)) kr (fun K=>by kernel_rfl) .nil ?_))
 obtain ⟨v2,hv2,hh⟩:=bind_some hh
 let z22:EH:=(2,some ⟨3,(fl (eI .i64) v2.1)⟩)
 obtain ⟨hg7,hh⟩:=grd_some hh
 obtain ⟨hg8,hh⟩:=grd_some hh
 refine ds (.call 134 [(.t 23),(.t 24)]) (some 25) (ydo_n rfl (op_callf (v':=.sref 2 [] (0+v2.2.1*1) v2.2.2 1) (Hp':=[z22]) (n':=6) [2] (impl_pageOf_p_fn hv2) (args':=[sw 2 v1.Words,ii x_frame]) kr rfl rfl rfl rz rfl (hn nr_eI hs_nil) ren_sy rfl (hn nr_eI hs_nil) rfl ⟨⟨agr_callf rfl rfl,Hld.un ?_⟩⟩))
 refine dct (cs:=[]) (E':=(sp 44 [z8,z11,z12,(4,pp 0),z15,z16,z10,(22,pp 4),(23,sw 2 v1.Words),(24,ii x_frame),(25,.sref 2 [] (0+v2.2.1*1) v2.2.2 1),(26,pp 0),(27,bo (eI .i64) x_h.Words),(28,.agg [ii (z3.Frame),bb (z3.Write),bb (z3.Dirty)])])) (H':=[z22,(2,none),z7,z9,z19,z18,z20,z21]) (n':=6) (fun K=>by kernel_rfl) .nil ?_
 obtain ⟨v3,hv3,hh⟩:=bind_some hh
 refine ys (.call 142 [(.t 27),(.t 28)]) (some 29) (op_callp (r:=bo (eI .i64) v3) (v:=bo (eI .i64) v3) (Hr:=[]) (n':=6) (impl_slotWords_fn hv3) (clz_v (vs:=[bo (eI .i64) x_h.Words,.agg [ii (z3.Frame),bb (z3.Write),bb (z3.Dirty)]]) kr (clz_c (clo_same (clean_bor (cleans_fl cl_eI))) (cz1 clz_n))) (by simp only [AV.noRef,noRefs,Bool.and_self,noRefs_fl nr_eI]) kr ?_)
 let q5:Root:=⟨3,(fl (eI .i64) (over v2.1 v2.2.1 v2.2.2 v3))⟩; let z23:=(2,some q5)
 refine ys (.cpy 1 (.t 25) (.t 29)) (some 30) (op_cpy (c:=(eI .i64)) (xs:=v2.1) (ys:=v3) (e:=3) (r:=2) (π:=[]) (o:=0+v2.2.1*1) (k:=v2.2.2) (i:=v2.2.1) (H':=[z23,z22,(2,none),z7,z9,z19,z18,z20,z21]) len_eI (rpv kr (rp_bor (c:=(eI .i64)) (xs:=v3) len_eI)) kr kr ltn ltn kr ?_)
 refine yt (sp 44 [z8,z11,z12,z15,z16,z10]) [z9,z23,z18,z20,z21] 6 (Aw.sregt [8,9] [1,2,3,4] ?_)
 obtain ⟨hg12,hh⟩:=grd_some hh
 refine qc (cs:=[(0:Int)≤x_g∧x_g<(((List.length v1.Guests):Nat):Int)]) (E':=(sp 44 [z8,z11,z12,z15,z16,z10,(31,.ptr 4 [] 1),z17,(33,ii x_g),z13,z14])) (pre:=(List.take 5 Lf104_r5)) (L':=(List.drop 5 Lf104_r5)) kr (fun K=>by kernel_rfl) (.cons hg12 .nil) (qs (.load false 1 (.t 35)) (some 36) (yq_q rfl (op_load (c:=O_53) (xs:=v1.Guests) (e:=53) (r:=3) (π:=[]) (o:=0+(Int.toNat x_g)*17+14) (i:=(Int.toNat x_g)) (off:=14) (v:=.sref 3 [0+(Int.toNat x_g)*17+14+0] 0 (List.length (z2.Pages)) 3) len_O_53 kr kr ltn ltn dd kr ?_)))
 obtain ⟨hg11,hh⟩:=grd_some hh
 refine qtt (cs:=[(0:Int)≤x_page∧x_page<(((List.length (z2.Pages)):Nat):Int)]) (E':=(sp 44 [z8,z11,z12,z15,z16,z10,(31,.ptr 4 [] 1),z17,(33,ii x_g),z13,z14,(36,.sref 3 [0+(Int.toNat x_g)*17+14+0] 0 (List.length (z2.Pages)) 3),(37,ii x_page),(38,ii x_frame),(39,.ptr 5 [] 2),(40,bb (z3.Dirty)),(41,.agg [ii x_frame,bb true,bb (z3.Dirty)]),(42,.ptr 3 [0+(Int.toNat x_g)*17+14+0] (0+(Int.toNat x_page)*3))])) (fun K=>by kernel_rfl) (.cons hg11 .nil) ?_
 let q6:Root:=⟨53,(fl O_53 (List.set v1.Guests (Int.toNat x_g) z6))⟩
 refine ys (.store 3 (.t 42) (.t 41)) none (op_store (c:=C_50) (xs:=z2.Pages) (e:=50) (r:=3) (π:=[0+(Int.toNat x_g)*17+14+0]) (o:=0+(Int.toNat x_page)*3) (i:=(Int.toNat x_page)) (off:=0) (vs:=[ii x_frame,bb true,bb (z3.Dirty)]) (y:=z4) (H':=[(3,some q6),z9,z23,z18,z20,z21]) len_C_50 kr kr kr (get_fl (e:=53) (e':=50) (sz':=3) (m':=(List.length (z2.Pages))) (cs':=(fl C_50 (z2.Pages))) (c:=O_53) (xs:=v1.Guests) (i:=(Int.toNat x_g)) (off:=14) len_O_53 kr ltn ltn dd rfl kr) ltn ltn dd kr (put_fl (e:=53) (e':=50) (sz':=3) (m':=(List.length (z2.Pages))) (cs':=(fl C_50 (z2.Pages))) (ds:=(fl C_50 z5)) (c:=O_53) (xs:=v1.Guests) (i:=(Int.toNat x_g)) (off:=14) (y:=z6) (m2:=(List.length z5)) len_O_53 kr ltn ltn dd rfl kr eqn kr rfl kr) ?_)
 refine yt (sp 44 [z15,z16]) [z9,z23,(3,some q6),z20] 6 (sy [8] [1,2,3] (sp 44 [z15]) [(1,some q3),z23,(3,some q6)] 6 (Aw.ret ?_))
 rw [some_some hh]
 exact gives (r':=.agg [sw 2 v1.Words,.sref 3 [] 0 (List.length v1.Guests) 17]) kr (Ent.list [some 2,some 3] rfl rfl (Nat.zero_le _) (rens_1 (ren_agg rz)) (hn nr_O_53 (hn nr_eI hs_nil)))
def Lf102_r0:List LOper:=[oX 3 26 0,oo 6 (.fresh 26 [.nil,.nil]),oF 7]
def Lf102_r1:List LOper:=[oA 9 1 3,ol 10 9,oK 11 71 [10],om 8 11]
def Lf102_r2:List LOper:=[om 12 8,oH 13 12,ob 14 .eql 13 0]
def Lf102_r3:List LOper:=[oo 15 (.bld [.nil,.nil] []),oS 2 6 15,oF 7]
def Lf102_r4:List LOper:=[oL 16 2 3,om 17 1,om 18 2,om 19 8,oo 20 (.iadr 1 (.t 19) (.c (ii 0))),ol 21 20]
def Lf102_r4t:List LOper:=[oK 22 104 [16,17,18,21],oS 2 6 22,oT 7]
def Lf102:LFun:=⟨23,[(.cell 6 true 2),(.tmp 7)],(.seq (.reg false Lf102_r0) (.seq (.reg false Lf102_r1) (.seq (.seq (.reg false Lf102_r2) (.cond (.t 14) (.seq (.reg false Lf102_r3) .ret) .skip)) (.seq (.regd Lf102_r4 Lf102_r4t) .ret))))⟩
theorem low_impl_inFreeFrame:lowFun Go.Proofs.Try.prog 102=some Lf102:=by kernel_rfl
noncomputable def F_impl_inFreeFrame (x_h:DHost) (x_g:Int) (x_page:Int):Option (DHost × Bool) :=
 Option.bind (F_impl_freeFrames x_h.Guests) fun v1 =>
 cond (decide ((((List.length v1):Nat):Int)=(0:Int)))
  (some ((DHost.mk ([]:List Int) ([]:List DGuest)),false))
  (grd ((0:Int)≤(0:Int)∧(0:Int)<(((List.length v1):Nat):Int)) (Option.bind (F_impl_inFrame x_h x_g x_page (List.getD v1 0 default)) fun v2 =>
   some (v2,true)))
theorem impl_inFreeFrame_fn {x_h:DHost} {x_g:Int} {x_page:Int} {R_:DHost × Bool} (hh:F_impl_inFreeFrame x_h x_g x_page=some R_):Fn Try.prog 102 [.agg (B_26 x_h),.int .i64 x_g,.int .i64 x_page] (.tup [.agg [.own 3 1 (List.length R_.1.Words) (fl (eI .i64) R_.1.Words),.own 53 17 (List.length R_.1.Guests) (fl O_53 R_.1.Guests)],.bool R_.2]):=by
 let z1:EH:=(0,some ⟨26,(B_26 x_h)⟩); let z2:=(1,ii x_g); let z3:EH:=(1,some ⟨26,[.nil,.nil]⟩); let z4:=(2,ii x_page); let z5:=(6,pp 1)
 unfold F_impl_inFreeFrame at hh
 refine Fn.start low_impl_inFreeFrame [0,1,2] (E:=sp 23 [(0,.agg (B_26 x_h)),z2,z4]) kr (v:=.tup [.agg [sw 0 R_.1.Words,.sref 1 [] 0 (List.length R_.1.Guests) 17],bb R_.2]) (Hr:=[(1,some ⟨53,(fl O_53 R_.1.Guests)⟩),(0,some ⟨3,(fl (eI .i64) R_.1.Words)⟩)]) (k:=2) kr (sy [1,2,3,6] [0,1] (sp 23 [z2,z4,(3,pp 0),z5]) [z1,z3] 2 (Aw.sreg [1,2,3,6,8] [0,1,2] (yu 2 [(9,.ptr 0 [] 1),(10,bo B_53 x_h.Guests)] [z1,z3] 2 ?_)))
 obtain ⟨v1,hv1,hh⟩:=bind_some hh
 let z6:=(14,bb (decide ((((List.length v1):Nat):Int)=(0:Int)))); let z7:EH:=(2,some ⟨3,(fl (eI .i64) v1)⟩)
 refine ys (.call 71 [(.t 10)]) (some 11) (op_call (r:=.own 3 1 (List.length v1) (fl (eI .i64) v1)) (v:=sw 2 v1) (Hr:=[z7]) (n':=3) (impl_freeFrames_fn hv1) (clz_v (vs:=[bo B_53 x_h.Guests]) kr (clz_c (clo_same (clean_bor (cleans_fl cl_B_53))) clz_n)) (by simp only [AV.noRef,noRefs,Bool.and_self,noRefs_fl nr_eI]) (by simp only [AV.noBor,noBors,Bool.and_self,noBors_fl nb_eI]) kr ?_)
 refine yt (sp 23 [z2,z4,(3,pp 0),z5,(8,sw 2 v1)]) [z1,z3,z7] 3 (Aw.seq (sy [1,2,3,6,8,14] [0,1,2] (sp 23 [z2,z4,(3,pp 0),z5,(8,sw 2 v1),z6]) [z1,z3,z7] 3 ?_))
 rcases cond_some hh with ⟨hb,hh⟩ | ⟨hb,hh⟩
 · refine cT hb (sy [6,7] [1] (sp 23 [z5,(7,bb false)]) [z3] 3 (Aw.ret (then_r ?_)))
   rw [some_some hh]
   exact gives (r':=.tup [.agg [.nil,.nil],bb false]) kr (Ent.list [none,none] rfl rfl (Nat.zero_le _) (rens_1 (ren_tup rz)) (hs_no dd rfl rfl (hs_no dd rfl rfl hs_nil)))
 refine cF hb (Aw.xskip (fun _ _ _ hq=>then_m hq) (Aw.sregd [6,7] [1,3,4] [] kr ?_))
 obtain ⟨hg2,hh⟩:=grd_some hh
 refine dc (cs:=[(0:Int)≤(0:Int)∧(0:Int)<(((List.length v1):Nat):Int)]) (E':=(sp 23 [z2,z4,(3,pp 0),z5,(8,sw 2 v1),z6,(16,.agg (B_26 x_h)),(17,ii x_g),(18,ii x_page),(19,sw 2 v1),(20,pp 2)])) (H':=[z1,z3,z7]) (n':=3) (fs':=none) (pre:=(List.take 5 Lf102_r4)) (L':=(List.drop 5 Lf102_r4)) kr (fun K=>by kernel_rfl) (.cons hg2 .nil) (ds (.load false 1 (.t 20)) (some 21) (ydo_q rfl kr (op_load (c:=(eI .i64)) (xs:=v1) (e:=3) (r:=2) (π:=[]) (o:=0) (i:=0) (off:=0) (v:=ii (List.getD v1 0 default)) len_eI kr kr ltn ltn dd kr ?_)))
 refine dct (cs:=[]) (E':=(sp 23 [z2,z4,(3,pp 0),z5,(8,sw 2 v1),z6,(16,.agg (B_26 x_h)),(17,ii x_g),(18,ii x_page),(19,sw 2 v1),(20,pp 2),(21,ii (List.getD v1 0 default))])) (H':=[z1,z3,z7]) (n':=3) (fun K=>by kernel_rfl) .nil ?_
 obtain ⟨v2,hv2,hh⟩:=bind_some hh
 let q1:Root:=⟨53,(fl O_53 v2.Guests)⟩; let q2:Root:=⟨3,(fl (eI .i64) v2.Words)⟩
 refine ys (.call 104 [(.t 16),(.t 17),(.t 18),(.t 21)]) (some 22) (op_call (r:=.agg [.own 3 1 (List.length v2.Words) (fl (eI .i64) v2.Words),.own 53 17 (List.length v2.Guests) (fl O_53 v2.Guests)]) (v:=.agg [sw 3 v2.Words,.sref 4 [] 0 (List.length v2.Guests) 17]) (Hr:=[(4,some q1),(3,some q2)]) (n':=5) (impl_inFrame_fn hv2) (clz_v (vs:=[.agg (B_26 x_h),ii x_g,ii x_page,ii (List.getD v1 0 default)]) kr (clz_c (clo_same (clean_agg (cl_B_26 _))) (cz1 (cz1 (cz1 clz_n))))) (by simp only [AV.noRef,noRefs,Bool.and_self,noRefs_fl nr_eI,noRefs_fl nr_O_53]) (by simp only [AV.noBor,noBors,Bool.and_self,noBors_fl nb_eI,noBors_fl nb_O_53]) kr ?_)
 refine yt (sp 23 [z5,(7,bb true)]) [(1,some ⟨26,[sw 3 v2.Words,.sref 4 [] 0 (List.length v2.Guests) 17]⟩),(3,some q2),(4,some q1)] 5 (Aw.ret ?_)
 rw [some_some hh]
 exact gives (r':=.tup [.agg [sw 3 v2.Words,.sref 4 [] 0 (List.length v2.Guests) 17],bb true]) kr (Ent.list [some 3,some 4] rfl rfl (Nat.zero_le _) (rens_1 (ren_tup rz)) (hn nr_O_53 (hn nr_eI hs_nil)))
def Lf34_r0:List LOper:=[oX 3 26 0,oo 6 (.fresh 26 [.nil,.nil]),oF 7]
def Lf34_r1:List LOper:=[oL 8 2 3,om 9 1,oK 10 80 [8,9],oU 11 10,om 12 11,og 13 (.mv (.t 2)) 12 false,og 14 (.call 100 [(.t 13)]) 12 false,og 15 (.un .not (.t 14)) 12 false,oQ 16 12 15]
def Lf34_r2:List LOper:=[oo 17 (.bld [.nil,.nil] []),oS 2 6 17,oF 7]
def Lf34_r3:List LOper:=[oA 18 1 3,ol 19 18,om 20 1,oi 21 17 19 20,oA 22 14 21,ol 23 22,om 24 2,oi 25 3 23 24,oA 26 0 25,ol 27 26,ob 28 .neq 27 (-1)]
def Lf34_r4:List LOper:=[oL 29 2 3,oK 30 101 [29],oS 2 6 30,oT 7]
def Lf34_r5:List LOper:=[oL 31 2 3,om 32 1,om 33 2,oK 34 102 [31,32,33],oE 35 34 0,oE 36 34 1,oS 2 6 35,om 7 36]
def Lf34:LFun:=⟨37,[(.cell 6 true 2),(.tmp 7)],(.seq (.reg false Lf34_r0) (.seq (.seq (.reg false Lf34_r1) (.cond (.t 16) (.seq (.reg false Lf34_r2) .ret) .skip)) (.seq (.seq (.reg false Lf34_r3) (.cond (.t 28) (.seq (.reg false Lf34_r4) .ret) .skip)) (.seq (.reg false Lf34_r5) .ret))))⟩
theorem low_impl_HostFill:lowFun Go.Proofs.Try.prog 34=some Lf34:=by kernel_rfl
noncomputable def F_impl_HostFill (x_h:DHost) (x_g:Int) (x_page:Int):Option (DHost × Bool) :=
 Option.bind (F_impl_hasGuest x_h x_g) fun v1 =>
 cond (!v1)
  (some ((DHost.mk ([]:List Int) ([]:List DGuest)),false))
  (Option.bind (F_impl_pageOk x_page) fun v2 =>
  cond (!v2)
   (some ((DHost.mk ([]:List Int) ([]:List DGuest)),false))
   (grd ((0:Int)≤x_g∧x_g<((List.length x_h.Guests:Nat):Int)) (grd ((0:Int)≤x_page∧x_page<((List.length ((List.getD x_h.Guests (Int.toNat x_g) default).Pages):Nat):Int)) (cond (!decide (((List.getD ((List.getD x_h.Guests (Int.toNat x_g) default).Pages) (Int.toNat x_page) default).Frame)=(-1:Int)))
    (Option.bind (F_impl_copiedHost x_h) fun v3 =>
    some (v3,true))
    (Option.bind (F_impl_inFreeFrame x_h x_g x_page) fun v4 =>
    some (v4.1,v4.2))))))
theorem impl_HostFill_fn {x_h:DHost} {x_g:Int} {x_page:Int} {R_:DHost × Bool} (hh:F_impl_HostFill x_h x_g x_page=some R_):Fn Try.prog 34 [.agg (B_26 x_h),.int .i64 x_g,.int .i64 x_page] (.tup [.agg [.own 3 1 (List.length R_.1.Words) (fl (eI .i64) R_.1.Words),.own 53 17 (List.length R_.1.Guests) (fl O_53 R_.1.Guests)],.bool R_.2]):=by
 let z3:EH:=(0,some ⟨26,(B_26 x_h)⟩); let z4:=(1,ii x_g); let z5:EH:=(1,some ⟨26,[.nil,.nil]⟩); let z6:=(2,ii x_page); let z7:=(3,pp 0); let z8:=(6,pp 1); let z1:=List.getD x_h.Guests (Int.toNat x_g) default; let z2:=List.getD (z1.Pages) (Int.toNat x_page) default; let z9:=(28,bb (!decide ((z2.Frame)=(-1:Int))))
 unfold F_impl_HostFill at hh
 refine Fn.start low_impl_HostFill [0,1,2] (E:=sp 37 [(0,.agg (B_26 x_h)),z4,z6]) kr (v:=.tup [.agg [sw 0 R_.1.Words,.sref 1 [] 0 (List.length R_.1.Guests) 17],bb R_.2]) (Hr:=[(1,some ⟨53,(fl O_53 R_.1.Guests)⟩),(0,some ⟨3,(fl (eI .i64) R_.1.Words)⟩)]) (k:=2) kr (sy [1,2,3,6] [0,1] (sp 37 [z4,z6,z7,z8]) [z3,z5] 2 (Aw.seq (Aw.sreg [1,2,3,6,16] [0,1] (yj 2  (sp 37 [z4,z6,z7,z8,(8,.agg (B_26 x_h)),(9,ii x_g)]) [z3,z5] 2 ?_))))
 obtain ⟨v1,hv1,hh⟩:=bind_some hh
 refine ys (.call 80 [(.t 8),(.t 9)]) (some 10) (op_call (r:=bb v1) (v:=bb v1) (Hr:=[]) (n':=2) (impl_hasGuest_fn hv1) (clz_v (vs:=[.agg (B_26 x_h),ii x_g]) kr (clz_c (clo_same (clean_agg (cl_B_26 _))) (cz1 clz_n))) rfl rfl kr ?_)
 refine yu 2 [(10,bb v1),(11,bb (!v1)),(12,bb (!v1))] [z3,z5] 2 ?_
 rcases cond_some hh with ⟨hb,hh⟩ | ⟨hb,hh⟩
 · refine yb 11 hb (yb 12 hb (yt (sp 37 [z4,z6,z7,z8,(16,bb true)]) [z3,z5] 2 (cT rfl (sy [6,7] [1] (sp 37 [z8,(7,bb false)]) [z5] 2 (Aw.ret (then_r ?_))))))
   rw [some_some hh]
   exact gives (r':=.tup [.agg [.nil,.nil],bb false]) kr (Ent.list [none,none] rfl rfl (Nat.zero_le _) (rens_1 (ren_tup rz)) (hs_no dd rfl rfl (hs_no dd rfl rfl hs_nil)))
 refine yb 11 hb (yb 12 hb (yu 1 [(11,bb false),(12,bb false),(13,ii x_page)] [z3,z5] 2 ?_))
 obtain ⟨v2,hv2,hh⟩:=bind_some hh
 refine yg (.call 100 [(.t 13)]) (some 14) 12 false (oc (impl_pageOk_fn hv2) ?_)
 refine yt (sp 37 [z4,z6,z7,z8,(16,bb (!v2))]) [z3,z5] 2 ?_
 rcases cond_some hh with ⟨hb,hh⟩ | ⟨hb,hh⟩
 · refine cT hb (sy [6,7] [1] (sp 37 [z8,(7,bb false)]) [z5] 2 (Aw.ret (then_r ?_)))
   rw [some_some hh]
   exact gives (r':=.tup [.agg [.nil,.nil],bb false]) kr (Ent.list [none,none] rfl rfl (Nat.zero_le _) (rens_1 (ren_tup rz)) (hs_no dd rfl rfl (hs_no dd rfl rfl hs_nil)))
 refine cF hb (Aw.xskip (fun _ _ _ hq=>then_m hq) (Aw.seq (Aw.sreg [1,2,3,6,28] [0,1] (yj 3  (sp 37 [z4,z6,z7,z8,(16,bb (!v2)),(18,.ptr 0 [] 1),(19,bo B_53 x_h.Guests),(20,ii x_g)]) [z3,z5] 2 ?_))))
 obtain ⟨hg7,hh⟩:=grd_some hh
 refine ys (.iadr 17 (.t 19) (.t 20)) (some 21) (op_iadr (kd:=.i64) (c:=B_53) (xs:=x_h.Guests) len_B_53 dd kr kr hg7 ?_)
 refine yu 1 [(21,.bptr (fl B_53 x_h.Guests) (Int.toNat x_g*17)),(22,.bptr (fl B_53 x_h.Guests) (Int.toNat x_g*17+14))] [z3,z5] 2 (ys (.load false 1 (.t 22)) (some 23) (op_loadb (c:=B_53) (xs:=x_h.Guests) (o:=Int.toNat x_g*17+14) (i:=(Int.toNat x_g)) (off:=14) (v:=bo C_50 (z1.Pages)) len_B_53 kr ltn ltn dd kr ?_))
 refine yu 1 [(23,bo C_50 (z1.Pages)),(24,ii x_page)] [z3,z5] 2 ?_
 obtain ⟨hg8,hh⟩:=grd_some hh
 refine ys (.iadr 3 (.t 23) (.t 24)) (some 25) (op_iadr (kd:=.i64) (c:=C_50) (xs:=z1.Pages) len_C_50 dd kr kr hg8 ?_)
 refine yu 1 [(25,.bptr (fl C_50 (z1.Pages)) (Int.toNat x_page*3)),(26,.bptr (fl C_50 (z1.Pages)) (Int.toNat x_page*3+0))] [z3,z5] 2 (ys (.load false 1 (.t 26)) (some 27) (op_loadb (c:=C_50) (xs:=z1.Pages) (o:=Int.toNat x_page*3+0) (i:=(Int.toNat x_page)) (off:=0) (v:=ii (z2.Frame)) len_C_50 kr ltn ltn dd kr ?_))
 refine yt (sp 37 [z4,z6,z7,z8,z9]) [z3,z5] 2 ?_
 rcases cond_some hh with ⟨hb,hh⟩ | ⟨hb,hh⟩
 · refine cT hb (Aw.sreg [6,7] [1,2,3] (yu 1 [(29,.agg (B_26 x_h))] [z3,z5] 2 ?_))
   obtain ⟨v3,hv3,hh⟩:=bind_some hh
   let q1:Root:=⟨53,(fl O_53 v3.Guests)⟩; let q2:Root:=⟨3,(fl (eI .i64) v3.Words)⟩
   refine ys (.call 101 [(.t 29)]) (some 30) (op_call (r:=.agg [.own 3 1 (List.length v3.Words) (fl (eI .i64) v3.Words),.own 53 17 (List.length v3.Guests) (fl O_53 v3.Guests)]) (v:=.agg [sw 2 v3.Words,.sref 3 [] 0 (List.length v3.Guests) 17]) (Hr:=[(3,some q1),(2,some q2)]) (n':=4) (impl_copiedHost_fn hv3) (clz_v (vs:=[.agg (B_26 x_h)]) kr (clz_c (clo_same (clean_agg (cl_B_26 _))) clz_n)) (by simp only [AV.noRef,noRefs,Bool.and_self,noRefs_fl nr_eI,noRefs_fl nr_O_53]) (by simp only [AV.noBor,noBors,Bool.and_self,noBors_fl nb_eI,noBors_fl nb_O_53]) kr ?_)
   refine yt (sp 37 [z8,(7,bb true)]) [(1,some ⟨26,[sw 2 v3.Words,.sref 3 [] 0 (List.length v3.Guests) 17]⟩),(2,some q2),(3,some q1)] 4 (Aw.ret (then_r ?_))
   rw [some_some hh]
   exact gives (r':=.tup [.agg [sw 2 v3.Words,.sref 3 [] 0 (List.length v3.Guests) 17],bb true]) kr (Ent.list [some 2,some 3] rfl rfl (Nat.zero_le _) (rens_1 (ren_tup rz)) (hn nr_O_53 (hn nr_eI hs_nil)))
 refine cF hb (Aw.xskip (fun _ _ _ hq=>then_m hq) (Aw.sreg [6,7] [1,2,3] (yj 3  (sp 37 [z4,z6,z7,z8,z9,(31,.agg (B_26 x_h)),(32,ii x_g),(33,ii x_page)]) [z3,z5] 2 ?_)))
 obtain ⟨v4,hv4,hh⟩:=bind_some hh
 let q3:Root:=⟨53,(fl O_53 v4.1.Guests)⟩; let q4:Root:=⟨3,(fl (eI .i64) v4.1.Words)⟩
 refine ys (.call 102 [(.t 31),(.t 32),(.t 33)]) (some 34) (op_call (r:=.tup [.agg [.own 3 1 (List.length v4.1.Words) (fl (eI .i64) v4.1.Words),.own 53 17 (List.length v4.1.Guests) (fl O_53 v4.1.Guests)],bb v4.2]) (v:=.tup [.agg [sw 2 v4.1.Words,.sref 3 [] 0 (List.length v4.1.Guests) 17],bb v4.2]) (Hr:=[(3,some q3),(2,some q4)]) (n':=4) (impl_inFreeFrame_fn hv4) (clz_v (vs:=[.agg (B_26 x_h),ii x_g,ii x_page]) kr (clz_c (clo_same (clean_agg (cl_B_26 _))) (cz1 (cz1 clz_n)))) (by simp only [AV.noRef,noRefs,Bool.and_self,noRefs_fl nr_eI,noRefs_fl nr_O_53]) (by simp only [AV.noBor,noBors,Bool.and_self,noBors_fl nb_eI,noBors_fl nb_O_53]) kr ?_)
 refine yt (sp 37 [z8,(7,bb v4.2)]) [(1,some ⟨26,[sw 2 v4.1.Words,.sref 3 [] 0 (List.length v4.1.Guests) 17]⟩),(2,some q4),(3,some q3)] 4 (Aw.ret ?_)
 rw [some_some hh]
 exact gives (r':=.tup [.agg [sw 2 v4.1.Words,.sref 3 [] 0 (List.length v4.1.Guests) 17],bb v4.2]) kr (Ent.list [some 2,some 3] rfl rfl (Nat.zero_le _) (rens_1 (ren_tup rz)) (hn nr_O_53 (hn nr_eI hs_nil)))
def Lf35_r0:List LOper:=[oX 3 26 0,oo 6 (.fresh 26 [.nil,.nil]),oF 7]
def Lf35_r1:List LOper:=[oL 11 2 3,om 12 1,oK 13 87 [11,12],oU 14 13,om 15 14,og 16 (.mv (.t 2)) 15 false,og 17 (.call 93 [(.t 16),(.c (ii 0)),(.c (ii 7))]) 15 false,og 18 (.un .not (.t 17)) 15 false,oQ 19 15 18]
def Lf35_r2:List LOper:=[oo 20 (.bld [.nil,.nil] []),oS 2 6 20,oF 7]
def Lf35_r3:List LOper:=[oL 21 2 3,oK 22 76 [21],oo 8 (.fresh 26 [.nil,.nil]),oS 2 8 22]
def Lf35_r4:List LOper:=[oA 23 1 3,ol 24 23,om 25 1,oi 26 17 24 25,oA 27 14 26,ol 28 27,om 29 2,oi 30 3 28 29,oA 31 0 30,ol 32 31,ob 33 .geq 32 0]
def Lf35_r5:List LOper:=[oL 34 2 8,oS 2 6 34,oT 7]
def Lf35_r6:List LOper:=[oL 35 2 3,oK 36 62 [35],om 9 36]
def Lf35_r7:List LOper:=[om 37 9,oH 38 37,ob 39 .eql 38 0]
def Lf35_r8:List LOper:=[oo 40 (.bld [.nil,.nil] []),oS 2 6 40,oF 7]
def Lf35_r9:List LOper:=[oN 10 0]
def Lf35_r10:List LOper:=[om 41 10,ob 42 .lss 41 8]
def Lf35_r11:List LOper:=[oA 45 0 8,ol 46 45,om 47 9,oo 48 (.iadr 1 (.t 47) (.c (ii 0))),ol 49 48,ob 50 .mul 49 8,om 51 10,oB 52 .add 50 51,oi 53 1 46 52]
def Lf35_r11t:List LOper:=[⟨none,(.store 1 (.t 53) (.c (ii 0))),none⟩]
def Lf35_r13:List LOper:=[om 43 10,ob 44 .add 43 1,om 10 44]
def Lf35_l14:LCode:=(.seq (.seq (.reg false Lf35_r10) (.cond (.t 42) .skip (.exit 0))) (.seq (.block 1 (.regt Lf35_r11 Lf35_r11t)) (.reg false Lf35_r13)))
def Lf35_r15:List LOper:=[oA 54 1 8,ol 55 54,om 56 1,oi 57 17 55 56,oA 58 14 57,ol 59 58,om 60 2,om 61 9,oo 62 (.iadr 1 (.t 61) (.c (ii 0))),ol 63 62,oo 64 (.bld [(ii 0),(bb false),(bb false)] [(0,(1,(.t 63))),(1,(1,(.c (bb true))))]),oi 65 3 59 60]
def Lf35_r15t:List LOper:=[oS 3 65 64]
def Lf35_r17:List LOper:=[oL 66 2 8,oS 2 6 66,oT 7]
def Lf35:LFun:=⟨67,[(.cell 6 true 2),(.tmp 7)],(.seq (.reg false Lf35_r0) (.seq (.seq (.reg false Lf35_r1) (.cond (.t 19) (.seq (.reg false Lf35_r2) .ret) .skip)) (.seq (.reg false Lf35_r3) (.seq (.seq (.reg false Lf35_r4) (.cond (.t 33) (.seq (.reg false Lf35_r5) .ret) .skip)) (.seq (.reg false Lf35_r6) (.seq (.seq (.reg false Lf35_r7) (.cond (.t 39) (.seq (.reg false Lf35_r8) .ret) .skip)) (.seq (.seq (.reg false Lf35_r9) (.block 0 (.loop Lf35_l14))) (.seq (.regt Lf35_r15 Lf35_r15t) (.seq (.reg false Lf35_r17) .ret)))))))))⟩
theorem low_spec_HostFill:lowFun Go.Proofs.Try.prog 35=some Lf35:=by kernel_rfl
noncomputable def F_spec_HostFill_j5 (x_g:Int) (x_page:Int) (v3:DHost) (v4:(List Int)) (s5:(List Int)):Option (DHost × Bool) :=
 grd ((0:Int)≤x_g∧x_g<(((List.length v3.Guests):Nat):Int)) (grd ((0:Int)≤(0:Int)∧(0:Int)<(((List.length v4):Nat):Int)) (grd ((0:Int)≤x_page∧x_page<(((List.length ((List.getD v3.Guests (Int.toNat x_g) default).Pages)):Nat):Int)) (some ((DHost.mk s5 (List.set v3.Guests (Int.toNat x_g) (DGuest.mk ((List.getD v3.Guests (Int.toNat x_g) default).Live) (DCore.mk (((List.getD v3.Guests (Int.toNat x_g) default).C).Regs) (((List.getD v3.Guests (Int.toNat x_g) default).C).Pc) (((List.getD v3.Guests (Int.toNat x_g) default).C).Root) (((List.getD v3.Guests (Int.toNat x_g) default).C).Vector) (((List.getD v3.Guests (Int.toNat x_g) default).C).Saved) (((List.getD v3.Guests (Int.toNat x_g) default).C).SavedUser) (((List.getD v3.Guests (Int.toNat x_g) default).C).Cause) (((List.getD v3.Guests (Int.toNat x_g) default).C).Bad) (((List.getD v3.Guests (Int.toNat x_g) default).C).Timer) (((List.getD v3.Guests (Int.toNat x_g) default).C).Waits) (((List.getD v3.Guests (Int.toNat x_g) default).C).User) (((List.getD v3.Guests (Int.toNat x_g) default).C).On) (((List.getD v3.Guests (Int.toNat x_g) default).C).Stopped)) (List.set ((List.getD v3.Guests (Int.toNat x_g) default).Pages) (Int.toNat x_page) (DSlot.mk (List.getD v4 0 default) true false)) ((List.getD v3.Guests (Int.toNat x_g) default).In) ((List.getD v3.Guests (Int.toNat x_g) default).Out)))),true))))
noncomputable def F_spec_HostFill_l6 (v4:(List Int)) (s6:(List Int) × Int):Option (LO ((List Int) × Int) (JO (List Int) (DHost × Bool))) :=
 cond (decide (s6.2<(8:Int)))
  (grd ((0:Int)≤(0:Int)∧(0:Int)<(((List.length v4):Nat):Int)) (grd ((0:Int)≤(w64 ((w64 ((List.getD v4 0 default)*(8:Int)))+s6.2))∧(w64 ((w64 ((List.getD v4 0 default)*(8:Int)))+s6.2))<(((List.length s6.1):Nat):Int)) (some (.next ((List.set s6.1 (Int.toNat (w64 ((w64 ((List.getD v4 0 default)*(8:Int)))+s6.2))) (0:Int)),(w64 (s6.2+(1:Int))))))))
  (some (.ret (.go s6.1)))
noncomputable def F_spec_HostFill (x_h:DHost) (x_g:Int) (x_page:Int):Option (DHost × Bool) :=
 Option.bind (F_spec_l4Live x_h x_g) fun v1 =>
 cond (!v1)
  (some ((DHost.mk ([]:List Int) ([]:List DGuest)),false))
  (Option.bind (F_spec_l1In x_page (0:Int) (7:Int)) fun v2 =>
  cond (!v2)
   (some ((DHost.mk ([]:List Int) ([]:List DGuest)),false))
   (Option.bind (F_spec_l4Copy x_h) fun v3 =>
   grd ((0:Int)≤x_g∧x_g<((List.length x_h.Guests:Nat):Int)) (grd ((0:Int)≤x_page∧x_page<((List.length ((List.getD x_h.Guests (Int.toNat x_g) default).Pages):Nat):Int)) (cond (decide ((0:Int)≤((List.getD ((List.getD x_h.Guests (Int.toNat x_g) default).Pages) (Int.toNat x_page) default).Frame)))
    (some (v3,true))
    (Option.bind (F_spec_HostFree x_h) fun v4 =>
    cond (decide ((((List.length v4):Nat):Int)=(0:Int)))
     (some ((DHost.mk ([]:List Int) ([]:List DGuest)),false))
     (Option.bind (Option.bind (iter (F_spec_HostFill_l6 v4) (v3.Words,(0:Int))) LO.val) fun j5 =>
      JO.run j5 (F_spec_HostFill_j5 x_g x_page v3 v4)))))))
theorem spec_HostFill_fn {x_h:DHost} {x_g:Int} {x_page:Int} {R_:DHost × Bool} (hh:F_spec_HostFill x_h x_g x_page=some R_):Fn Try.prog 35 [.agg (B_26 x_h),.int .i64 x_g,.int .i64 x_page] (.tup [.agg [.own 3 1 (List.length R_.1.Words) (fl (eI .i64) R_.1.Words),.own 53 17 (List.length R_.1.Guests) (fl O_53 R_.1.Guests)],.bool R_.2]):=by
 let z8:EH:=(0,some ⟨26,(B_26 x_h)⟩); let z9:EH:=(0,some ⟨26,[.nil,.nil]⟩); let z10:=(1,ii x_g); let z11:EH:=(1,some ⟨26,[.nil,.nil]⟩); let z12:=(2,ii x_page); let z13:=(3,pp 0); let z14:EV:=(57,.ptr 3 [] (0+(Int.toNat x_g)*17)); let z15:EV:=(58,.ptr 3 [] (0+(Int.toNat x_g)*17+14)); let z16:=(6,pp 0); let z17:=(6,pp 1); let z18:=(8,pp 1); let z19:=(8,pp 4); let z1:=List.getD x_h.Guests (Int.toNat x_g) default; let z5:=List.getD (z1.Pages) (Int.toNat x_page) default; let z20:=(33,bb (decide ((0:Int)≤(z5.Frame))))
 unfold F_spec_HostFill at hh
 refine Fn.start low_spec_HostFill [0,1,2] (E:=sp 67 [(0,.agg (B_26 x_h)),z10,z12]) kr (v:=.tup [.agg [sw 0 R_.1.Words,.sref 1 [] 0 (List.length R_.1.Guests) 17],bb R_.2]) (Hr:=[(1,some ⟨53,(fl O_53 R_.1.Guests)⟩),(0,some ⟨3,(fl (eI .i64) R_.1.Words)⟩)]) (k:=2) kr (sy [1,2,3,6] [0,1] (sp 67 [z10,z12,z13,z17]) [z8,z11] 2 (Aw.seq (Aw.sreg [1,2,3,6,19] [0,1] (yj 2  (sp 67 [z10,z12,z13,z17,(11,.agg (B_26 x_h)),(12,ii x_g)]) [z8,z11] 2 ?_))))
 obtain ⟨v1,hv1,hh⟩:=bind_some hh
 refine ys (.call 87 [(.t 11),(.t 12)]) (some 13) (op_call (r:=bb v1) (v:=bb v1) (Hr:=[]) (n':=2) (spec_l4Live_fn hv1) (clz_v (vs:=[.agg (B_26 x_h),ii x_g]) kr (clz_c (clo_same (clean_agg (cl_B_26 _))) (cz1 clz_n))) rfl rfl kr ?_)
 refine yu 2 [(13,bb v1),(14,bb (!v1)),(15,bb (!v1))] [z8,z11] 2 ?_
 rcases cond_some hh with ⟨hb,hh⟩ | ⟨hb,hh⟩
 · refine yb 14 hb (yb 15 hb (yt (sp 67 [z10,z12,z13,z17,(19,bb true)]) [z8,z11] 2 (cT rfl (sy [6,7] [1] (sp 67 [z17,(7,bb false)]) [z11] 2 (Aw.ret (then_r ?_))))))
   rw [some_some hh]
   exact gives (r':=.tup [.agg [.nil,.nil],bb false]) kr (Ent.list [none,none] rfl rfl (Nat.zero_le _) (rens_1 (ren_tup rz)) (hs_no dd rfl rfl (hs_no dd rfl rfl hs_nil)))
 refine yb 14 hb (yb 15 hb (yu 1 [(14,bb false),(15,bb false),(16,ii x_page)] [z8,z11] 2 ?_))
 obtain ⟨v2,hv2,hh⟩:=bind_some hh
 refine yg (.call 93 [(.t 16),(.c (ii 0)),(.c (ii 7))]) (some 17) 15 false (oc (spec_l1In_fn hv2) ?_)
 refine yt (sp 67 [z10,z12,z13,z17,(19,bb (!v2))]) [z8,z11] 2 ?_
 rcases cond_some hh with ⟨hb,hh⟩ | ⟨hb,hh⟩
 · refine cT hb (sy [6,7] [1] (sp 67 [z17,(7,bb false)]) [z11] 2 (Aw.ret (then_r ?_)))
   rw [some_some hh]
   exact gives (r':=.tup [.agg [.nil,.nil],bb false]) kr (Ent.list [none,none] rfl rfl (Nat.zero_le _) (rens_1 (ren_tup rz)) (hs_no dd rfl rfl (hs_no dd rfl rfl hs_nil)))
 refine cF hb (Aw.xskip (fun _ _ _ hq=>then_m hq) (Aw.sreg [1,2,3,6,8] [0,1,2,3,4] (yj 1  (sp 67 [z10,z12,z13,z17,(19,bb (!v2)),(21,.agg (B_26 x_h))]) [z8,z11] 2 ?_)))
 obtain ⟨v3,hv3,hh⟩:=bind_some hh
 let z21:EV:=(55,.sref 3 [] 0 (List.length v3.Guests) 17); let z2:=List.getD v3.Guests (Int.toNat x_g) default; let z22:EV:=(59,.sref 3 [0+(Int.toNat x_g)*17+14+0] 0 (List.length (z2.Pages)) 3); let q1:Root:=⟨53,(fl O_53 v3.Guests)⟩; let z23:=(3,some q1); let q2:Root:=⟨3,(fl (eI .i64) v3.Words)⟩; let z24:=(2,some q2)
 refine ys (.call 76 [(.t 21)]) (some 22) (op_call (r:=.agg [.own 3 1 (List.length v3.Words) (fl (eI .i64) v3.Words),.own 53 17 (List.length v3.Guests) (fl O_53 v3.Guests)]) (v:=.agg [sw 2 v3.Words,.sref 3 [] 0 (List.length v3.Guests) 17]) (Hr:=[z23,z24]) (n':=4) (spec_l4Copy_fn hv3) (clz_v (vs:=[.agg (B_26 x_h)]) kr (clz_c (clo_same (clean_agg (cl_B_26 _))) clz_n)) (by simp only [AV.noRef,noRefs,Bool.and_self,noRefs_fl nr_eI,noRefs_fl nr_O_53]) (by simp only [AV.noBor,noBors,Bool.and_self,noBors_fl nb_eI,noBors_fl nb_O_53]) kr ?_)
 let q3:Root:=⟨26,[sw 2 v3.Words,.sref 3 [] 0 (List.length v3.Guests) 17]⟩; let z25:=(4,some q3)
 refine yt (sp 67 [z10,z12,z13,z17,z19]) [z8,z11,z24,z23,z25] 5 (Aw.seq (Aw.sreg [1,2,3,6,8,33] [0,1,2,3,4] (yj 3  (sp 67 [z10,z12,z13,z17,z19,(23,.ptr 0 [] 1),(24,bo B_53 x_h.Guests),(25,ii x_g)]) [z8,z11,z24,z23,z25] 5 ?_)))
 obtain ⟨hg7,hh⟩:=grd_some hh
 refine ys (.iadr 17 (.t 24) (.t 25)) (some 26) (op_iadr (kd:=.i64) (c:=B_53) (xs:=x_h.Guests) len_B_53 dd kr kr hg7 ?_)
 refine yu 1 [(26,.bptr (fl B_53 x_h.Guests) (Int.toNat x_g*17)),(27,.bptr (fl B_53 x_h.Guests) (Int.toNat x_g*17+14))] [z8,z11,z24,z23,z25] 5 (ys (.load false 1 (.t 27)) (some 28) (op_loadb (c:=B_53) (xs:=x_h.Guests) (o:=Int.toNat x_g*17+14) (i:=(Int.toNat x_g)) (off:=14) (v:=bo C_50 (z1.Pages)) len_B_53 kr ltn ltn dd kr ?_))
 refine yu 1 [(28,bo C_50 (z1.Pages)),(29,ii x_page)] [z8,z11,z24,z23,z25] 5 ?_
 obtain ⟨hg8,hh⟩:=grd_some hh
 refine ys (.iadr 3 (.t 28) (.t 29)) (some 30) (op_iadr (kd:=.i64) (c:=C_50) (xs:=z1.Pages) len_C_50 dd kr kr hg8 ?_)
 refine yu 1 [(30,.bptr (fl C_50 (z1.Pages)) (Int.toNat x_page*3)),(31,.bptr (fl C_50 (z1.Pages)) (Int.toNat x_page*3+0))] [z8,z11,z24,z23,z25] 5 (ys (.load false 1 (.t 31)) (some 32) (op_loadb (c:=C_50) (xs:=z1.Pages) (o:=Int.toNat x_page*3+0) (i:=(Int.toNat x_page)) (off:=0) (v:=ii (z5.Frame)) len_C_50 kr ltn ltn dd kr ?_))
 refine yt (sp 67 [z10,z12,z13,z17,z19,z20]) [z8,z11,z24,z23,z25] 5 ?_
 rcases cond_some hh with ⟨hb,hh⟩ | ⟨hb,hh⟩
 · refine cT hb (sy [6,7] [1,2,3] (sp 67 [z17,(7,bb true)]) [(1,some q3),z24,z23] 5 (Aw.ret (then_r ?_)))
   rw [some_some hh]
   exact gives (r':=.tup [.agg [sw 2 v3.Words,.sref 3 [] 0 (List.length v3.Guests) 17],bb true]) kr (Ent.list [some 2,some 3] rfl rfl (Nat.zero_le _) (rens_1 (ren_tup rz)) (hn nr_O_53 (hn nr_eI hs_nil)))
 refine cF hb (Aw.xskip (fun _ _ _ hq=>then_m hq) (Aw.sreg [1,2,6,8,9] [1,2,3,4,5] (yj 1  (sp 67 [z10,z12,z13,z17,z19,z20,(35,.agg (B_26 x_h))]) [z8,z11,z24,z23,z25] 5 ?_)))
 obtain ⟨v4,hv4,hh⟩:=bind_some hh
 let z26:EH:=(4,some ⟨3,(fl (eI .i64) v4)⟩); let z27:EH:=(5,some ⟨3,(fl (eI .i64) v4)⟩); let z28:=(9,sw 4 v4); let z3:=DSlot.mk (List.getD v4 0 default) true false; let z6:=List.set (z2.Pages) (Int.toNat x_page) z3; let z7:=DGuest.mk (z2.Live) (z2.C) z6 (z2.In) (z2.Out)
 refine ys (.call 62 [(.t 35)]) (some 36) (op_call (r:=.own 3 1 (List.length v4) (fl (eI .i64) v4)) (v:=sw 5 v4) (Hr:=[z27]) (n':=6) (spec_HostFree_fn hv4) (clz_v (vs:=[.agg (B_26 x_h)]) kr (clz_c (clo_same (clean_agg (cl_B_26 _))) clz_n)) (by simp only [AV.noRef,noRefs,Bool.and_self,noRefs_fl nr_eI]) (by simp only [AV.noBor,noBors,Bool.and_self,noBors_fl nb_eI]) kr ?_)
 refine yt (sp 67 [z10,z12,z17,z19,(9,sw 5 v4)]) [z11,z24,z23,z25,z27] 6 (Aw.seq (sy [1,2,6,8,9,39] [1,2,3,4,5] (sp 67 [z10,z12,z17,z19,(9,sw 5 v4),(39,bb (decide ((((List.length v4):Nat):Int)=(0:Int))))]) [z11,z24,z23,z25,z27] 6 ?_))
 rcases cond_some hh with ⟨hb,hh⟩ | ⟨hb,hh⟩
 · refine cT hb (sy [6,7] [1] (sp 67 [z17,(7,bb false)]) [z11] 6 (Aw.ret (then_r ?_)))
   rw [some_some hh]
   exact gives (r':=.tup [.agg [.nil,.nil],bb false]) kr (Ent.list [none,none] rfl rfl (Nat.zero_le _) (rens_1 (ren_tup rz)) (hs_no dd rfl rfl (hs_no dd rfl rfl hs_nil)))
 refine cF hb (Aw.xskip (fun _ _ _ hq=>then_m hq) ?_)
 obtain ⟨j5,hh,hk5⟩:=bind_some hh
 refine Aw.join (S:=(List Int)) (fun s5=>sp 67 [(1,ii x_g),(2,ii x_page),(6,pp 0),(8,pp 1),(9,sw 4 v4)]) (fun s5=>[(0,some ⟨26,[.nil,.nil]⟩),(1,some ⟨26,[sw 2 s5,.sref 3 [] 0 (List.length v3.Guests) 17]⟩),(2,some ⟨3,(fl (eI .i64) s5)⟩),(3,some ⟨53,(fl O_53 v3.Guests)⟩),(4,some ⟨3,(fl (eI .i64) v4)⟩)]) 5 (fun s5=>F_spec_HostFill_j5 x_g x_page v3 v4 s5=some R_) ?_ ?_
 · intro s5 hh
   let z29:EH:=(2,some ⟨3,(fl (eI .i64) s5)⟩)
   unfold F_spec_HostFill_j5 at hh
   refine Aw.sregt [6,8] [0,1,2,3] ?_
   obtain ⟨hg38,hh⟩:=grd_some hh
   refine qc (cs:=[(0:Int)≤x_g∧x_g<(((List.length v3.Guests):Nat):Int)]) (E':=(sp 67 [z10,z12,z16,z18,z28,(54,.ptr 1 [] 1),z21,(56,ii x_g),z14,z15])) (pre:=(List.take 5 Lf35_r15)) (L':=(List.drop 5 Lf35_r15)) kr (fun K=>by kernel_rfl) (.cons hg38 .nil) (qs (.load false 1 (.t 58)) (some 59) (yq_q rfl (op_load (c:=O_53) (xs:=v3.Guests) (e:=53) (r:=3) (π:=[]) (o:=0+(Int.toNat x_g)*17+14) (i:=(Int.toNat x_g)) (off:=14) (v:=.sref 3 [0+(Int.toNat x_g)*17+14+0] 0 (List.length (z2.Pages)) 3) len_O_53 kr kr ltn ltn dd kr ?_)))
   obtain ⟨hg37,hh⟩:=grd_some hh
   refine qc (cs:=[(0:Int)≤(0:Int)∧(0:Int)<(((List.length v4):Nat):Int)]) (E':=(sp 67 [z10,z12,z16,z18,z28,(54,.ptr 1 [] 1),z21,(56,ii x_g),z14,z15,z22,(60,ii x_page),(61,sw 4 v4),(62,pp 4)])) (pre:=(List.take 3 (List.drop 6 Lf35_r15))) (L':=(List.drop 9 Lf35_r15)) kr (fun K=>by kernel_rfl) (.cons hg37 .nil) (qs (.load false 1 (.t 62)) (some 63) (yq_q rfl (op_load (c:=(eI .i64)) (xs:=v4) (e:=3) (r:=4) (π:=[]) (o:=0) (i:=0) (off:=0) (v:=ii (List.getD v4 0 default)) len_eI kr kr ltn ltn dd kr ?_)))
   obtain ⟨hg36,hh⟩:=grd_some hh
   refine qtt (cs:=[(0:Int)≤x_page∧x_page<(((List.length (z2.Pages)):Nat):Int)]) (E':=(sp 67 [z10,z12,z16,z18,z28,(54,.ptr 1 [] 1),z21,(56,ii x_g),z14,z15,z22,(60,ii x_page),(61,sw 4 v4),(62,pp 4),(63,ii (List.getD v4 0 default)),(64,.agg [ii (List.getD v4 0 default),bb true,bb false]),(65,.ptr 3 [0+(Int.toNat x_g)*17+14+0] (0+(Int.toNat x_page)*3))])) (fun K=>by kernel_rfl) (.cons hg36 .nil) ?_
   let q4:Root:=⟨53,(fl O_53 (List.set v3.Guests (Int.toNat x_g) z7))⟩; let q5:Root:=⟨26,[sw 2 s5,.sref 3 [] 0 (List.length v3.Guests) 17]⟩
   refine ys (.store 3 (.t 65) (.t 64)) none (op_store (c:=C_50) (xs:=z2.Pages) (e:=50) (r:=3) (π:=[0+(Int.toNat x_g)*17+14+0]) (o:=0+(Int.toNat x_page)*3) (i:=(Int.toNat x_page)) (off:=0) (vs:=[ii (List.getD v4 0 default),bb true,bb false]) (y:=z3) (H':=[(3,some q4),z9,(1,some q5),z29,z23,z26]) len_C_50 kr kr kr (get_fl (e:=53) (e':=50) (sz':=3) (m':=(List.length (z2.Pages))) (cs':=(fl C_50 (z2.Pages))) (c:=O_53) (xs:=v3.Guests) (i:=(Int.toNat x_g)) (off:=14) len_O_53 kr ltn ltn dd rfl kr) ltn ltn dd kr (put_fl (e:=53) (e':=50) (sz':=3) (m':=(List.length (z2.Pages))) (cs':=(fl C_50 (z2.Pages))) (ds:=(fl C_50 z6)) (c:=O_53) (xs:=v3.Guests) (i:=(Int.toNat x_g)) (off:=14) (y:=z7) (m2:=(List.length z6)) len_O_53 kr ltn ltn dd rfl kr eqn kr rfl kr) ?_)
   refine yt (sp 67 [z16,z18]) [z9,(1,some q5),z29,(3,some q4)] 5 (sy [6,7] [0,2,3] (sp 67 [z16,(7,bb true)]) [(0,some q5),z29,(3,some q4)] 5 (Aw.ret ?_))
   rw [some_some hh]
   exact gives (r':=.tup [.agg [sw 2 s5,.sref 3 [] 0 (List.length v3.Guests) 17],bb true]) kr (Ent.list [some 2,some 3] rfl rfl (Nat.zero_le _) (rens_1 (ren_tup rz)) (hn nr_O_53 (hn nr_eI hs_nil)))
 intro Q5 hN5 hR5 hE5
 refine sy [1,2,6,8,9,10] [1,2,3,4,5] (sp 67 [z10,z12,z17,z19,(9,sw 5 v4),(10,ii 0)]) [z11,z24,z23,z25,z27] 6 (Aw.block ?_)
 obtain ⟨o6,hi6,hk6⟩:=bind_some hh
 refine Aw.iter (fun (s6:(List Int) × Int)=>sp 67 [(1,ii x_g),(2,ii x_page),(6,pp 0),(8,pp 1),(9,sw 4 v4),(10,ii s6.2)]) (fun (s6:(List Int) × Int)=>[(0,some ⟨26,[.nil,.nil]⟩),(1,some ⟨26,[sw 2 s6.1,.sref 3 [] 0 (List.length v3.Guests) 17]⟩),(2,some ⟨3,(fl (eI .i64) s6.1)⟩),(3,some ⟨53,(fl O_53 v3.Guests)⟩),(4,some ⟨3,(fl (eI .i64) v4)⟩)]) 5 hi6 (el [some 1,some 4,some 2,some 3,some 5] (rens_sp kr (ri (ri (rp 1 (rp 4 (rs (sw 5 v4) (ri rl_n))))))) (hq ⟨26,[.nil,.nil]⟩ rz (hq q3 rz (hn nr_eI (hn nr_O_53 (hn nr_eI hs_nil)))))) ?_
 intro s6 u6 Q6 hh hN6 hX6 hR6
 let z30:=(10,ii s6.2); let z31:EH:=(2,some ⟨3,(fl (eI .i64) s6.1)⟩); let z32:=(42,bb (decide (s6.2<(8:Int)))); let z4:=List.set s6.1 (Int.toNat (w64 ((w64 ((List.getD v4 0 default)*(8:Int)))+s6.2))) (0:Int)
 unfold F_spec_HostFill_l6 at hh
 refine Aw.seq (Aw.sreg [1,2,6,8,9,10,42] [0,1,2,3,4] ?_)
 let q6:Root:=⟨26,[sw 2 s6.1,.sref 3 [] 0 (List.length v3.Guests) 17]⟩
 refine yt (sp 67 [z10,z12,z16,z18,z28,z30,z32]) [z9,(1,some q6),z31,z23,z26] 5 ?_
 rcases cond_sf hh with ⟨hb,hh⟩ | ⟨hb,hh⟩
 · refine cF hb (Aw.exit (then_x (hX6 _ _ _ _ _ (some_some hh) ?_)))
   intro hout
   rw [hout] at hk6
   refine blk_x ?_
   obtain rfl:=some_some hk6
   exact hN5 s6.1 _ _ _ hk5 (el [some 0,some 1,some 2,some 3,some 4] (rens_sp kr (ri (ri (rp 0 (rp 1 (rs (sw 4 v4) rl_n)))))) (hq ⟨26,[.nil,.nil]⟩ rz (hq q6 rz (hn nr_eI (hn nr_O_53 (hn nr_eI hs_nil))))))
 refine cT hb (Aw.xskip (fun _ _ _ hq=>then_m hq) (Aw.seq (Aw.block (Aw.xregt [1,2,6,8,9,10] [0,1,2,3,4] (fun _ _ _ hq=>blk_m (then_m hq)) ?_))))
 obtain ⟨hg62,hh⟩:=grd_some hh
 refine qc (cs:=[(0:Int)≤(0:Int)∧(0:Int)<(((List.length v4):Nat):Int)]) (E':=(sp 67 [z10,z12,z16,z18,z28,z30,z32,(45,pp 1),(46,sw 2 s6.1),(47,sw 4 v4),(48,pp 4)])) (pre:=(List.take 4 Lf35_r11)) (L':=(List.drop 4 Lf35_r11)) kr (fun K=>by kernel_rfl) (.cons hg62 .nil) (qs (.load false 1 (.t 48)) (some 49) (yq_q rfl (op_load (c:=(eI .i64)) (xs:=v4) (e:=3) (r:=4) (π:=[]) (o:=0) (i:=0) (off:=0) (v:=ii (List.getD v4 0 default)) len_eI kr kr ltn ltn dd kr ?_)))
 obtain ⟨hg61,hh⟩:=grd_some hh
 refine qtt (cs:=[(0:Int)≤(w64 ((w64 ((List.getD v4 0 default)*(8:Int)))+s6.2))∧(w64 ((w64 ((List.getD v4 0 default)*(8:Int)))+s6.2))<(((List.length s6.1):Nat):Int)]) (E':=(sp 67 [z10,z12,z16,z18,z28,z30,z32,(45,pp 1),(46,sw 2 s6.1),(47,sw 4 v4),(48,pp 4),(49,ii (List.getD v4 0 default)),(50,ii (w64 ((List.getD v4 0 default)*(8:Int)))),(51,ii s6.2),(52,ii (w64 ((w64 ((List.getD v4 0 default)*(8:Int)))+s6.2))),(53,.ptr 2 [] (0+(Int.toNat (w64 ((w64 ((List.getD v4 0 default)*(8:Int)))+s6.2)))*1))])) (fun K=>by kernel_rfl) (.cons hg61 .nil) ?_
 let q7:Root:=⟨3,(fl (eI .i64) z4)⟩
 refine ys (.store 1 (.t 53) (.c (ii 0))) none (op_store (c:=(eI .i64)) (xs:=s6.1) (e:=3) (r:=2) (π:=[]) (o:=0+(Int.toNat (w64 ((w64 ((List.getD v4 0 default)*(8:Int)))+s6.2)))*1) (i:=(Int.toNat (w64 ((w64 ((List.getD v4 0 default)*(8:Int)))+s6.2)))) (off:=0) (vs:=[ii 0]) (y:=(0:Int)) (H':=[(2,some q7),z9,(1,some q6),z31,z23,z26]) len_eI kr kr kr kr ltn ltn dd kr kr ?_)
 exact yt (sp 67 [z10,z12,z16,z18,z28,z30]) [z9,(1,some q6),(2,some q7),z23,z26] 5 (Aw.oreg (ye (sp 67 [z10,z12,z16,z18,z28,(10,ii (w64 (s6.2+(1:Int)))),(43,ii s6.2),(44,ii (w64 (s6.2+(1:Int))))]) [z9,(1,some q6),(2,some q7),z23,z26] 5 (hN6 (z4,(w64 (s6.2+(1:Int)))) _ _ _ (some_some hh) (el [some 0,some 1,some 2,some 3,some 4] (rens_sp kr (ri (ri (rp 0 (rp 1 (rs (sw 4 v4) (ri rl_n))))))) (hq ⟨26,[.nil,.nil]⟩ rz (hq q6 rz (hn nr_eI (hn nr_O_53 (hn nr_eI hs_nil)))))))))
end Go.Proofs.Ytlikfpmbcdlnjaa
