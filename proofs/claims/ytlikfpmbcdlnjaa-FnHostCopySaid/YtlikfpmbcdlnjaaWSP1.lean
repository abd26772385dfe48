/- Plain functions of the program, and that it hands back what they say. Made by program. -/
import Derived.Test.YtlikfpmbcdlnjaaWT
import Derived.Test.YtlikfpmbcdlnjaaProg
import Derived.Test.YtlikfpmbcdlnjaaWHC1
import Derived.Test.YtlikfpmbcdlnjaaWHD1
import Derived.Test.YtlikfpmbcdlnjaaWHF1
import Derived.Test.YtlikfpmbcdlnjaaWHO1
import Derived.Test.YtlikfpmbcdlnjaaWO1
import Derived.Test.YtlikfpmbcdlnjaaWSL1
namespace Go.Proofs.Ytlikfpmbcdlnjaa
open Go.RowKit
set_option maxRecDepth 100000
set_option linter.all false
set_option maxHeartbeats 0
def Lf37_r0:List LOper:=[oX 3 26 0,oo 6 (.fresh 26 [.nil,.nil]),oF 7]
def Lf37_r1:List LOper:=[oL 9 2 3,om 10 1,oK 11 80 [9,10],oU 12 11,om 13 12,og 14 (.mv (.t 2)) 13 false,og 15 (.call 100 [(.t 14)]) 13 false,og 16 (.un .not (.t 15)) 13 false,oQ 17 13 16]
def Lf37_r2:List LOper:=[oo 18 (.bld [.nil,.nil] []),oS 2 6 18,oF 7]
def Lf37_r3:List LOper:=[oA 19 1 3,ol 20 19,om 21 1,oi 22 17 20 21,oA 23 14 22,ol 24 23,om 25 2,oi 26 3 24 25,oA 27 0 26,ol 28 27,om 8 28]
def Lf37_r4:List LOper:=[om 29 8,ob 30 .eql 29 (-1)]
def Lf37_r5:List LOper:=[oo 31 (.bld [.nil,.nil] []),oS 2 6 31,oF 7]
def Lf37_r6:List LOper:=[oA 32 1 3,ol 33 32,oK 34 103 [33],om 35 8,oi 36 1 34 35,ol 37 36,ob 38 .eql 37 1]
def Lf37_r7:List LOper:=[oL 39 2 3,om 40 1,om 41 2,om 42 8,oK 43 104 [39,40,41,42],oS 2 6 43,oT 7]
def Lf37_r8:List LOper:=[oL 44 2 3,om 45 1,om 46 2,oK 47 102 [44,45,46],oE 48 47 0,oE 49 47 1,oS 2 6 48,om 7 49]
def Lf37:LFun:=⟨50,[(.cell 6 true 2),(.tmp 7)],(.seq (.reg false Lf37_r0) (.seq (.seq (.reg false Lf37_r1) (.cond (.t 17) (.seq (.reg false Lf37_r2) .ret) .skip)) (.seq (.reg false Lf37_r3) (.seq (.seq (.reg false Lf37_r4) (.cond (.t 30) (.seq (.reg false Lf37_r5) .ret) .skip)) (.seq (.seq (.reg false Lf37_r6) (.cond (.t 38) (.seq (.reg false Lf37_r7) .ret) .skip)) (.seq (.reg false Lf37_r8) .ret))))))⟩
theorem low_impl_HostCopy:lowFun Go.Proofs.Try.prog 37=some Lf37:=by kernel_rfl
noncomputable def F_impl_HostCopy (x_h:DHost) (x_g:Int) (x_page:Int):Option (DHost × Bool) :=
 Option.bind (F_impl_hasGuest x_h x_g) fun v1 =>
 cond (!v1)
  (some ((DHost.mk ([]:List Int) ([]:List DGuest)),false))
  (Option.bind (F_impl_pageOk x_page) fun v2 =>
  cond (!v2)
   (some ((DHost.mk ([]:List Int) ([]:List DGuest)),false))
   (grd ((0:Int)≤x_g∧x_g<((List.length x_h.Guests:Nat):Int)) (grd ((0:Int)≤x_page∧x_page<((List.length ((List.getD x_h.Guests (Int.toNat x_g) default).Pages):Nat):Int)) (cond (decide (((List.getD ((List.getD x_h.Guests (Int.toNat x_g) default).Pages) (Int.toNat x_page) default).Frame)=(-1:Int)))
    (some ((DHost.mk ([]:List Int) ([]:List DGuest)),false))
    (Option.bind (F_impl_frameTakers x_h.Guests) fun v3 =>
    grd ((0:Int)≤((List.getD ((List.getD x_h.Guests (Int.toNat x_g) default).Pages) (Int.toNat x_page) default).Frame)∧((List.getD ((List.getD x_h.Guests (Int.toNat x_g) default).Pages) (Int.toNat x_page) default).Frame)<(((List.length v3):Nat):Int)) (cond (decide ((List.getD v3 (Int.toNat ((List.getD ((List.getD x_h.Guests (Int.toNat x_g) default).Pages) (Int.toNat x_page) default).Frame)) default)=(1:Int)))
     (Option.bind (F_impl_inFrame x_h x_g x_page ((List.getD ((List.getD x_h.Guests (Int.toNat x_g) default).Pages) (Int.toNat x_page) default).Frame)) fun v4 =>
     some (v4,true))
     (Option.bind (F_impl_inFreeFrame x_h x_g x_page) fun v5 =>
     some (v5.1,v5.2))))))))
theorem impl_HostCopy_fn {x_h:DHost} {x_g:Int} {x_page:Int} {R_:DHost × Bool} (hh:F_impl_HostCopy x_h x_g x_page=some R_):Fn Try.prog 37 [.agg (B_26 x_h),.int .i64 x_g,.int .i64 x_page] (.tup [.agg [.own 3 1 (List.length R_.1.Words) (fl (eI .i64) R_.1.Words),.own 53 17 (List.length R_.1.Guests) (fl O_53 R_.1.Guests)],.bool R_.2]):=by
 let z4:EH:=(0,some ⟨26,(B_26 x_h)⟩); let z5:=(1,ii x_g); let z6:EH:=(1,some ⟨26,[.nil,.nil]⟩); let z7:=(2,ii x_page); let z8:=(3,pp 0); let z9:=(6,pp 1); let z1:=List.getD x_h.Guests (Int.toNat x_g) default; let z2:=List.getD (z1.Pages) (Int.toNat x_page) default; let z10:=(30,bb (decide ((z2.Frame)=(-1:Int)))); let z11:=(8,ii (z2.Frame))
 unfold F_impl_HostCopy at hh
 refine Fn.start low_impl_HostCopy [0,1,2] (E:=sp 50 [(0,.agg (B_26 x_h)),z5,z7]) kr (v:=.tup [.agg [sw 0 R_.1.Words,.sref 1 [] 0 (List.length R_.1.Guests) 17],bb R_.2]) (Hr:=[(1,some ⟨53,(fl O_53 R_.1.Guests)⟩),(0,some ⟨3,(fl (eI .i64) R_.1.Words)⟩)]) (k:=2) kr (sy [1,2,3,6] [0,1] (sp 50 [z5,z7,z8,z9]) [z4,z6] 2 (Aw.seq (Aw.sreg [1,2,3,6,17] [0,1] (yj 2  (sp 50 [z5,z7,z8,z9,(9,.agg (B_26 x_h)),(10,ii x_g)]) [z4,z6] 2 ?_))))
 obtain ⟨v1,hv1,hh⟩:=bind_some hh
 refine ys (.call 80 [(.t 9),(.t 10)]) (some 11) (op_call (r:=bb v1) (v:=bb v1) (Hr:=[]) (n':=2) (impl_hasGuest_fn hv1) (clz_v (vs:=[.agg (B_26 x_h),ii x_g]) kr (clz_c (clo_same (clean_agg (cl_B_26 _))) (cz1 clz_n))) rfl rfl kr ?_)
 refine yu 2 [(11,bb v1),(12,bb (!v1)),(13,bb (!v1))] [z4,z6] 2 ?_
 rcases cond_some hh with ⟨hb,hh⟩ | ⟨hb,hh⟩
 · refine yb 12 hb (yb 13 hb (yt (sp 50 [z5,z7,z8,z9,(17,bb true)]) [z4,z6] 2 (cT rfl (sy [6,7] [1] (sp 50 [z9,(7,bb false)]) [z6] 2 (Aw.ret (then_r ?_))))))
   rw [some_some hh]
   exact gives (r':=.tup [.agg [.nil,.nil],bb false]) kr (Ent.list [none,none] rfl rfl (Nat.zero_le _) (rens_1 (ren_tup rz)) (hs_no dd rfl rfl (hs_no dd rfl rfl hs_nil)))
 refine yb 12 hb (yb 13 hb (yu 1 [(12,bb false),(13,bb false),(14,ii x_page)] [z4,z6] 2 ?_))
 obtain ⟨v2,hv2,hh⟩:=bind_some hh
 refine yg (.call 100 [(.t 14)]) (some 15) 13 false (oc (impl_pageOk_fn hv2) ?_)
 refine yt (sp 50 [z5,z7,z8,z9,(17,bb (!v2))]) [z4,z6] 2 ?_
 rcases cond_some hh with ⟨hb,hh⟩ | ⟨hb,hh⟩
 · refine cT hb (sy [6,7] [1] (sp 50 [z9,(7,bb false)]) [z6] 2 (Aw.ret (then_r ?_)))
   rw [some_some hh]
   exact gives (r':=.tup [.agg [.nil,.nil],bb false]) kr (Ent.list [none,none] rfl rfl (Nat.zero_le _) (rens_1 (ren_tup rz)) (hs_no dd rfl rfl (hs_no dd rfl rfl hs_nil)))
 refine cF hb (Aw.xskip (fun _ _ _ hq=>then_m hq) (Aw.sreg [1,2,3,6,8] [0,1] (yj 3  (sp 50 [z5,z7,z8,z9,(17,bb (!v2)),(19,.ptr 0 [] 1),(20,bo B_53 x_h.Guests),(21,ii x_g)]) [z4,z6] 2 ?_)))
 obtain ⟨hg3,hh⟩:=grd_some hh
 refine ys (.iadr 17 (.t 20) (.t 21)) (some 22) (op_iadr (kd:=.i64) (c:=B_53) (xs:=x_h.Guests) len_B_53 dd kr kr hg3 ?_)
 refine yu 1 [(22,.bptr (fl B_53 x_h.Guests) (Int.toNat x_g*17)),(23,.bptr (fl B_53 x_h.Guests) (Int.toNat x_g*17+14))] [z4,z6] 2 (ys (.load false 1 (.t 23)) (some 24) (op_loadb (c:=B_53) (xs:=x_h.Guests) (o:=Int.toNat x_g*17+14) (i:=(Int.toNat x_g)) (off:=14) (v:=bo C_50 (z1.Pages)) len_B_53 kr ltn ltn dd kr ?_))
 refine yu 1 [(24,bo C_50 (z1.Pages)),(25,ii x_page)] [z4,z6] 2 ?_
 obtain ⟨hg4,hh⟩:=grd_some hh
 refine ys (.iadr 3 (.t 24) (.t 25)) (some 26) (op_iadr (kd:=.i64) (c:=C_50) (xs:=z1.Pages) len_C_50 dd kr kr hg4 ?_)
 refine yu 1 [(26,.bptr (fl C_50 (z1.Pages)) (Int.toNat x_page*3)),(27,.bptr (fl C_50 (z1.Pages)) (Int.toNat x_page*3+0))] [z4,z6] 2 (ys (.load false 1 (.t 27)) (some 28) (op_loadb (c:=C_50) (xs:=z1.Pages) (o:=Int.toNat x_page*3+0) (i:=(Int.toNat x_page)) (off:=0) (v:=ii (z2.Frame)) len_C_50 kr ltn ltn dd kr ?_))
 refine yt (sp 50 [z5,z7,z8,z9,z11]) [z4,z6] 2 (Aw.seq (sy [1,2,3,6,8,30] [0,1] (sp 50 [z5,z7,z8,z9,z11,z10]) [z4,z6] 2 ?_))
 rcases cond_some hh with ⟨hb,hh⟩ | ⟨hb,hh⟩
 · refine cT hb (sy [6,7] [1] (sp 50 [z9,(7,bb false)]) [z6] 2 (Aw.ret (then_r ?_)))
   rw [some_some hh]
   exact gives (r':=.tup [.agg [.nil,.nil],bb false]) kr (Ent.list [none,none] rfl rfl (Nat.zero_le _) (rens_1 (ren_tup rz)) (hs_no dd rfl rfl (hs_no dd rfl rfl hs_nil)))
 refine cF hb (Aw.xskip (fun _ _ _ hq=>then_m hq) (Aw.seq (Aw.sreg [1,2,3,6,8,38] [0,1] (yj 2  (sp 50 [z5,z7,z8,z9,z11,z10,(32,.ptr 0 [] 1),(33,bo B_53 x_h.Guests)]) [z4,z6] 2 ?_))))
 obtain ⟨v3,hv3,hh⟩:=bind_some hh
 let z12:EH:=(2,some ⟨3,(fl (eI .i64) v3)⟩); let z3:=List.getD v3 (Int.toNat (z2.Frame)) default; let z13:=(38,bb (decide (z3=(1:Int))))
 refine ys (.call 103 [(.t 33)]) (some 34) (op_call (r:=.own 3 1 (List.length v3) (fl (eI .i64) v3)) (v:=sw 2 v3) (Hr:=[z12]) (n':=3) (impl_frameTakers_fn hv3) (clz_v (vs:=[bo B_53 x_h.Guests]) kr (clz_c (clo_same (clean_bor (cleans_fl cl_B_53))) clz_n)) (by simp only [AV.noRef,noRefs,Bool.and_self,noRefs_fl nr_eI]) (by simp only [AV.noBor,noBors,Bool.and_self,noBors_fl nb_eI]) kr ?_)
 obtain ⟨hg8,hh⟩:=grd_some hh
 refine yjc 2 [(0:Int)≤(z2.Frame)∧(z2.Frame)<(((List.length v3):Nat):Int)] (sp 50 [z5,z7,z8,z9,z11,z10,(32,.ptr 0 [] 1),(33,bo B_53 x_h.Guests),(34,sw 2 v3),(35,ii (z2.Frame)),(36,.ptr 2 [] (0+(Int.toNat (z2.Frame))*1))]) [z12,z4,z6] 3 (.cons hg8 .nil) (ys (.load false 1 (.t 36)) (some 37) (op_load (c:=(eI .i64)) (xs:=v3) (e:=3) (r:=2) (π:=[]) (o:=0+(Int.toNat (z2.Frame))*1) (i:=(Int.toNat (z2.Frame))) (off:=0) (v:=ii z3) len_eI kr kr ltn ltn dd kr ?_))
 refine yt (sp 50 [z5,z7,z8,z9,z11,z13]) [z4,z6] 3 ?_
 rcases cond_some hh with ⟨hb,hh⟩ | ⟨hb,hh⟩
 · refine cT hb (Aw.sreg [6,7] [1,3,4] (yu 4 [(39,.agg (B_26 x_h)),(40,ii x_g),(41,ii x_page),(42,ii (z2.Frame))] [z4,z6] 3 ?_))
   obtain ⟨v4,hv4,hh⟩:=bind_some hh
   let q1:Root:=⟨53,(fl O_53 v4.Guests)⟩; let q2:Root:=⟨3,(fl (eI .i64) v4.Words)⟩
   refine ys (.call 104 [(.t 39),(.t 40),(.t 41),(.t 42)]) (some 43) (op_call (r:=.agg [.own 3 1 (List.length v4.Words) (fl (eI .i64) v4.Words),.own 53 17 (List.length v4.Guests) (fl O_53 v4.Guests)]) (v:=.agg [sw 3 v4.Words,.sref 4 [] 0 (List.length v4.Guests) 17]) (Hr:=[(4,some q1),(3,some q2)]) (n':=5) (impl_inFrame_fn hv4) (clz_v (vs:=[.agg (B_26 x_h),ii x_g,ii x_page,ii (z2.Frame)]) kr (clz_c (clo_same (clean_agg (cl_B_26 _))) (cz1 (cz1 (cz1 clz_n))))) (by simp only [AV.noRef,noRefs,Bool.and_self,noRefs_fl nr_eI,noRefs_fl nr_O_53]) (by simp only [AV.noBor,noBors,Bool.and_self,noBors_fl nb_eI,noBors_fl nb_O_53]) kr ?_)
   refine yt (sp 50 [z9,(7,bb true)]) [(1,some ⟨26,[sw 3 v4.Words,.sref 4 [] 0 (List.length v4.Guests) 17]⟩),(3,some q2),(4,some q1)] 5 (Aw.ret (then_r ?_))
   rw [some_some hh]
   exact gives (r':=.tup [.agg [sw 3 v4.Words,.sref 4 [] 0 (List.length v4.Guests) 17],bb true]) kr (Ent.list [some 3,some 4] rfl rfl (Nat.zero_le _) (rens_1 (ren_tup rz)) (hn nr_O_53 (hn nr_eI hs_nil)))
 refine cF hb (Aw.xskip (fun _ _ _ hq=>then_m hq) (Aw.sreg [6,7] [1,3,4] (yj 3  (sp 50 [z5,z7,z8,z9,z11,z13,(44,.agg (B_26 x_h)),(45,ii x_g),(46,ii x_page)]) [z4,z6] 3 ?_)))
 obtain ⟨v5,hv5,hh⟩:=bind_some hh
 let q3:Root:=⟨53,(fl O_53 v5.1.Guests)⟩; let q4:Root:=⟨3,(fl (eI .i64) v5.1.Words)⟩
 refine ys (.call 102 [(.t 44),(.t 45),(.t 46)]) (some 47) (op_call (r:=.tup [.agg [.own 3 1 (List.length v5.1.Words) (fl (eI .i64) v5.1.Words),.own 53 17 (List.length v5.1.Guests) (fl O_53 v5.1.Guests)],bb v5.2]) (v:=.tup [.agg [sw 3 v5.1.Words,.sref 4 [] 0 (List.length v5.1.Guests) 17],bb v5.2]) (Hr:=[(4,some q3),(3,some q4)]) (n':=5) (impl_inFreeFrame_fn hv5) (clz_v (vs:=[.agg (B_26 x_h),ii x_g,ii x_page]) kr (clz_c (clo_same (clean_agg (cl_B_26 _))) (cz1 (cz1 clz_n)))) (by simp only [AV.noRef,noRefs,Bool.and_self,noRefs_fl nr_eI,noRefs_fl nr_O_53]) (by simp only [AV.noBor,noBors,Bool.and_self,noBors_fl nb_eI,noBors_fl nb_O_53]) kr ?_)
 refine yt (sp 50 [z9,(7,bb v5.2)]) [(1,some ⟨26,[sw 3 v5.1.Words,.sref 4 [] 0 (List.length v5.1.Guests) 17]⟩),(3,some q4),(4,some q3)] 5 (Aw.ret ?_)
 rw [some_some hh]
 exact gives (r':=.tup [.agg [sw 3 v5.1.Words,.sref 4 [] 0 (List.length v5.1.Guests) 17],bb v5.2]) kr (Ent.list [some 3,some 4] rfl rfl (Nat.zero_le _) (rens_1 (ren_tup rz)) (hn nr_O_53 (hn nr_eI hs_nil)))
def Lf38_r0:List LOper:=[oX 3 26 0,oo 6 (.fresh 26 [.nil,.nil]),oF 7]
def Lf38_r1:List LOper:=[oL 11 2 3,om 12 1,oK 13 87 [11,12],oU 14 13,om 15 14,og 16 (.mv (.t 2)) 15 false,og 17 (.call 93 [(.t 16),(.c (ii 0)),(.c (ii 7))]) 15 false,og 18 (.un .not (.t 17)) 15 false,oQ 19 15 18,om 20 19,og 21 (.fadr 1 (.t 3)) 20 false,og 22 (.load false 1 (.t 21)) 20 false,og 23 (.mv (.t 1)) 20 false,og 24 (.iadr 17 (.t 22) (.t 23)) 20 false,og 25 (.fadr 14 (.t 24)) 20 false,og 26 (.load false 1 (.t 25)) 20 false,og 27 (.mv (.t 2)) 20 false,og 28 (.iadr 3 (.t 26) (.t 27)) 20 false,og 29 (.fadr 0 (.t 28)) 20 false,og 30 (.load false 1 (.t 29)) 20 false,og 31 (.bin .lss (.t 30) (.c (ii 0))) 20 false,oQ 32 20 31]
def Lf38_r2:List LOper:=[oo 33 (.bld [.nil,.nil] []),oS 2 6 33,oF 7]
def Lf38_r3:List LOper:=[oL 34 2 3,oK 35 76 [34],oo 8 (.fresh 26 [.nil,.nil]),oS 2 8 35]
def Lf38_r4:List LOper:=[oA 36 1 3,ol 37 36,om 38 1,oi 39 17 37 38,oA 40 14 39,ol 41 40,om 42 2,oi 43 3 41 42,oL 44 3 43,oo 9 (.fresh 50 [(ii 0),(bb false),(bb false)]),oS 3 9 44]
def Lf38_r5:List LOper:=[oA 45 1 9,ol 46 45,oU 47 46,om 48 47,og 49 (.load true 2 (.t 3)) 48 true,og 50 (.call 105 [(.t 49)]) 48 true,og 51 (.fadr 0 (.t 9)) 48 true,og 52 (.load false 1 (.t 51)) 48 true]
def Lf38_r5t:List LOper:=[og 53 (.iadr 1 (.t 50) (.t 52)) 48 true,og 54 (.load false 1 (.t 53)) 48 true,og 55 (.bin .gtr (.t 54) (.c (ii 1))) 48 true,oP 56 48 55]
def Lf38_r7:List LOper:=[oL 57 2 3,oK 58 62 [57],om 10 58]
def Lf38_r8:List LOper:=[om 59 10,oH 60 59,ob 61 .eql 60 0]
def Lf38_r9:List LOper:=[oo 62 (.bld [.nil,.nil] []),oS 2 6 62,oF 7]
def Lf38_r10:List LOper:=[oA 63 0 8,ol 64 63,om 65 10,oo 66 (.iadr 1 (.t 65) (.c (ii 0))),ol 67 66,ob 68 .mul 67 8,om 69 10,oo 70 (.iadr 1 (.t 69) (.c (ii 0))),ol 71 70,ob 72 .add 71 1,ob 73 .mul 72 8,oo 74 (.slc 1 (.t 64) (some (.t 68)) (some (.t 73))),oA 75 0 3,ol 76 75,oA 77 0 9,ol 78 77,ob 79 .mul 78 8,oo 80 (.slc 1 (.t 76) (some (.t 79)) none)]
def Lf38_r10t:List LOper:=[oo 81 (.cpy 1 (.t 74) (.t 80))]
def Lf38_r12:List LOper:=[om 82 10,oo 83 (.iadr 1 (.t 82) (.c (ii 0))),ol 84 83,oA 85 0 9,oS 1 85 84]
def Lf38_r13:List LOper:=[oA 86 1 9,⟨none,(.store 1 (.t 86) (.c (bb true))),none⟩]
def Lf38_r14:List LOper:=[oA 87 1 8,ol 88 87,om 89 1,oi 90 17 88 89,oA 91 14 90,ol 92 91,om 93 2,oL 94 3 9,oi 95 3 92 93]
def Lf38_r14t:List LOper:=[oS 3 95 94]
def Lf38_r16:List LOper:=[oL 96 2 8,oS 2 6 96,oT 7]
def Lf38:LFun:=⟨97,[(.cell 6 true 2),(.tmp 7)],(.seq (.reg false Lf38_r0) (.seq (.seq (.reg false Lf38_r1) (.cond (.t 32) (.seq (.reg false Lf38_r2) .ret) .skip)) (.seq (.reg false Lf38_r3) (.seq (.reg false Lf38_r4) (.seq (.seq (.regd Lf38_r5 Lf38_r5t) (.cond (.t 56) (.seq (.reg false Lf38_r7) (.seq (.seq (.reg false Lf38_r8) (.cond (.t 61) (.seq (.reg false Lf38_r9) .ret) .skip)) (.seq (.regt Lf38_r10 Lf38_r10t) (.reg false Lf38_r12)))) .skip)) (.seq (.reg false Lf38_r13) (.seq (.regt Lf38_r14 Lf38_r14t) (.seq (.reg false Lf38_r16) .ret))))))))⟩
theorem low_spec_HostCopy:lowFun Go.Proofs.Try.prog 38=some Lf38:=by kernel_rfl
noncomputable def F_spec_HostCopy_j4 (x_h:DHost) (x_g:Int) (x_page:Int) (v3:DHost) (s4:(List Int) × Int):Option (DHost × Bool) :=
 grd ((0:Int)≤x_g∧x_g<(((List.length v3.Guests):Nat):Int)) (grd ((0:Int)≤x_page∧x_page<(((List.length ((List.getD v3.Guests (Int.toNat x_g) default).Pages)):Nat):Int)) (some ((DHost.mk s4.1 (List.set v3.Guests (Int.toNat x_g) (DGuest.mk ((List.getD v3.Guests (Int.toNat x_g) default).Live) (DCore.mk (((List.getD v3.Guests (Int.toNat x_g) default).C).Regs) (((List.getD v3.Guests (Int.toNat x_g) default).C).Pc) (((List.getD v3.Guests (Int.toNat x_g) default).C).Root) (((List.getD v3.Guests (Int.toNat x_g) default).C).Vector) (((List.getD v3.Guests (Int.toNat x_g) default).C).Saved) (((List.getD v3.Guests (Int.toNat x_g) default).C).SavedUser) (((List.getD v3.Guests (Int.toNat x_g) default).C).Cause) (((List.getD v3.Guests (Int.toNat x_g) default).C).Bad) (((List.getD v3.Guests (Int.toNat x_g) default).C).Timer) (((List.getD v3.Guests (Int.toNat x_g) default).C).Waits) (((List.getD v3.Guests (Int.toNat x_g) default).C).User) (((List.getD v3.Guests (Int.toNat x_g) default).C).On) (((List.getD v3.Guests (Int.toNat x_g) default).C).Stopped)) (List.set ((List.getD v3.Guests (Int.toNat x_g) default).Pages) (Int.toNat x_page) (DSlot.mk s4.2 true ((List.getD ((List.getD x_h.Guests (Int.toNat x_g) default).Pages) (Int.toNat x_page) default).Dirty))) ((List.getD v3.Guests (Int.toNat x_g) default).In) ((List.getD v3.Guests (Int.toNat x_g) default).Out)))),true)))
noncomputable def F_spec_HostCopy (x_h:DHost) (x_g:Int) (x_page:Int):Option (DHost × Bool) :=
 Option.bind (F_spec_l4Live x_h x_g) fun v1 =>
 cond (!v1)
  (some ((DHost.mk ([]:List Int) ([]:List DGuest)),false))
  (Option.bind (F_spec_l1In x_page (0:Int) (7:Int)) fun v2 =>
  cond (!v2)
   (some ((DHost.mk ([]:List Int) ([]:List DGuest)),false))
   (grd ((0:Int)≤x_g∧x_g<((List.length x_h.Guests:Nat):Int)) (grd ((0:Int)≤x_page∧x_page<((List.length ((List.getD x_h.Guests (Int.toNat x_g) default).Pages):Nat):Int)) (cond (decide (((List.getD ((List.getD x_h.Guests (Int.toNat x_g) default).Pages) (Int.toNat x_page) default).Frame)<(0:Int)))
    (some ((DHost.mk ([]:List Int) ([]:List DGuest)),false))
    (Option.bind (F_spec_l4Copy x_h) fun v3 =>
    grd ((0:Int)≤x_g∧x_g<((List.length x_h.Guests:Nat):Int)) (grd ((0:Int)≤x_page∧x_page<((List.length ((List.getD x_h.Guests (Int.toNat x_g) default).Pages):Nat):Int)) (Option.bind (cond (!((List.getD ((List.getD x_h.Guests (Int.toNat x_g) default).Pages) (Int.toNat x_page) default).Write))
     (Option.bind (F_spec_l4Used x_h) fun v5 =>
     grd ((0:Int)≤((List.getD ((List.getD x_h.Guests (Int.toNat x_g) default).Pages) (Int.toNat x_page) default).Frame)∧((List.getD ((List.getD x_h.Guests (Int.toNat x_g) default).Pages) (Int.toNat x_page) default).Frame)<(((List.length v5):Nat):Int)) (cond (decide ((1:Int)<(List.getD v5 (Int.toNat ((List.getD ((List.getD x_h.Guests (Int.toNat x_g) default).Pages) (Int.toNat x_page) default).Frame)) default)))
      (Option.bind (F_spec_HostFree x_h) fun v6 =>
      cond (decide ((((List.length v6):Nat):Int)=(0:Int)))
       (some (.out ((DHost.mk ([]:List Int) ([]:List DGuest)),false)))
       (grd ((0:Int)≤(0:Int)∧(0:Int)<(((List.length v6):Nat):Int)) (grd ((0:Int)≤(0:Int)∧(0:Int)<(((List.length v6):Nat):Int)) (grd ((0:Int)≤(w64 ((List.getD v6 0 default)*(8:Int)))∧(w64 ((List.getD v6 0 default)*(8:Int)))≤(w64 ((w64 ((List.getD v6 0 default)+(1:Int)))*(8:Int)))∧(w64 ((w64 ((List.getD v6 0 default)+(1:Int)))*(8:Int)))≤(((List.length v3.Words):Nat):Int)) (grd ((0:Int)≤(w64 (((List.getD ((List.getD x_h.Guests (Int.toNat x_g) default).Pages) (Int.toNat x_page) default).Frame)*(8:Int)))∧(w64 (((List.getD ((List.getD x_h.Guests (Int.toNat x_g) default).Pages) (Int.toNat x_page) default).Frame)*(8:Int)))≤((List.length x_h.Words:Nat):Int)∧((List.length x_h.Words:Nat):Int)≤((List.length x_h.Words:Nat):Int)) (grd ((0:Int)≤(0:Int)∧(0:Int)<(((List.length v6):Nat):Int)) (some (.go ((over v3.Words (Int.toNat (w64 ((List.getD v6 0 default)*(8:Int)))) (Int.toNat (w64 ((w64 ((List.getD v6 0 default)+(1:Int)))*(8:Int))) - Int.toNat (w64 ((List.getD v6 0 default)*(8:Int)))) (List.take (Int.toNat ((List.length x_h.Words:Nat):Int) - Int.toNat (w64 (((List.getD ((List.getD x_h.Guests (Int.toNat x_g) default).Pages) (Int.toNat x_page) default).Frame)*(8:Int)))) (List.drop (Int.toNat (w64 (((List.getD ((List.getD x_h.Guests (Int.toNat x_g) default).Pages) (Int.toNat x_page) default).Frame)*(8:Int)))) x_h.Words))),(List.getD v6 0 default))))))))))
      (some (.go (v3.Words,(List.getD ((List.getD x_h.Guests (Int.toNat x_g) default).Pages) (Int.toNat x_page) default).Frame)))))
     (some (.go (v3.Words,(List.getD ((List.getD x_h.Guests (Int.toNat x_g) default).Pages) (Int.toNat x_page) default).Frame)))) fun j4 =>
     JO.run j4 (F_spec_HostCopy_j4 x_h x_g x_page v3))))))))
theorem spec_HostCopy_fn {x_h:DHost} {x_g:Int} {x_page:Int} {R_:DHost × Bool} (hh:F_spec_HostCopy x_h x_g x_page=some R_):Fn Try.prog 38 [.agg (B_26 x_h),.int .i64 x_g,.int .i64 x_page] (.tup [.agg [.own 3 1 (List.length R_.1.Words) (fl (eI .i64) R_.1.Words),.own 53 17 (List.length R_.1.Guests) (fl O_53 R_.1.Guests)],.bool R_.2]):=by
 let z12:EH:=(0,some ⟨26,(B_26 x_h)⟩); let z13:EH:=(0,some ⟨26,[.nil,.nil]⟩); let z14:=(1,ii x_g); let z15:EH:=(1,some ⟨26,[.nil,.nil]⟩); let z16:=(2,ii x_page); let z17:=(3,pp 0); let z18:EV:=(45,.ptr 5 [] 1); let z19:EV:=(49,.agg (B_26 x_h)); let z20:=(6,pp 1); let z21:=(63,pp 4); let z22:=(66,pp 7); let z23:=(7,bb false); let z24:=(76,bo (eI .i64) x_h.Words); let z25:=(8,pp 4); let z26:=(9,pp 5); let z27:EV:=(90,.ptr 3 [] (0+(Int.toNat x_g)*17)); let z28:EV:=(91,.ptr 3 [] (0+(Int.toNat x_g)*17+14)); let z1:=List.drop 4 Lf38_r5; let z2:=List.getD x_h.Guests (Int.toNat x_g) default; let z4:=List.getD (z2.Pages) (Int.toNat x_page) default; let z29:=(32,bb (decide ((z4.Frame)<(0:Int)))); let z30:=(46,bb (z4.Write)); let z31:=(79,ii (w64 ((z4.Frame)*(8:Int)))); let z5:=List.drop (Int.toNat (w64 ((z4.Frame)*(8:Int)))) x_h.Words; let z8:=List.take (Int.toNat ((List.length x_h.Words:Nat):Int) - Int.toNat (w64 ((z4.Frame)*(8:Int)))) z5
 unfold F_spec_HostCopy at hh
 refine Fn.start low_spec_HostCopy [0,1,2] (E:=sp 97 [(0,.agg (B_26 x_h)),z14,z16]) kr (v:=.tup [.agg [sw 0 R_.1.Words,.sref 1 [] 0 (List.length R_.1.Guests) 17],bb R_.2]) (Hr:=[(1,some ⟨53,(fl O_53 R_.1.Guests)⟩),(0,some ⟨3,(fl (eI .i64) R_.1.Words)⟩)]) (k:=2) kr (sy [1,2,3,6] [0,1] (sp 97 [z14,z16,z17,z20]) [z12,z15] 2 (Aw.seq (Aw.sreg [1,2,3,6,32] [0,1] (yj 2  (sp 97 [z14,z16,z17,z20,(11,.agg (B_26 x_h)),(12,ii x_g)]) [z12,z15] 2 ?_))))
 obtain ⟨v1,hv1,hh⟩:=bind_some hh
 refine ys (.call 87 [(.t 11),(.t 12)]) (some 13) (op_call (r:=bb v1) (v:=bb v1) (Hr:=[]) (n':=2) (spec_l4Live_fn hv1) (clz_v (vs:=[.agg (B_26 x_h),ii x_g]) kr (clz_c (clo_same (clean_agg (cl_B_26 _))) (cz1 clz_n))) rfl rfl kr ?_)
 refine yu 2 [(13,bb v1),(14,bb (!v1)),(15,bb (!v1))] [z12,z15] 2 ?_
 rcases cond_some hh with ⟨hb,hh⟩ | ⟨hb,hh⟩
 · refine yb 14 hb (yb 15 hb (yt (sp 97 [z14,z16,z17,z20,(32,bb true)]) [z12,z15] 2 (cT rfl (sy [6,7] [1] (sp 97 [z20,z23]) [z15] 2 (Aw.ret (then_r ?_))))))
   rw [some_some hh]
   exact gives (r':=.tup [.agg [.nil,.nil],bb false]) kr (Ent.list [none,none] rfl rfl (Nat.zero_le _) (rens_1 (ren_tup rz)) (hs_no dd rfl rfl (hs_no dd rfl rfl hs_nil)))
 refine yb 14 hb (yb 15 hb (yu 1 [(14,bb false),(15,bb false),(16,ii x_page)] [z12,z15] 2 ?_))
 obtain ⟨v2,hv2,hh⟩:=bind_some hh
 refine yg (.call 93 [(.t 16),(.c (ii 0)),(.c (ii 7))]) (some 17) 15 false (oc (spec_l1In_fn hv2) ?_)
 refine yu 3 [(17,bb v2),(18,bb (!v2)),(19,bb (!v2)),(20,bb (!v2))] [z12,z15] 2 ?_
 rcases cond_some hh with ⟨hb,hh⟩ | ⟨hb,hh⟩
 · refine yb 18 hb (yb 19 hb (yb 20 hb (yt (sp 97 [z14,z16,z17,z20,(32,bb true)]) [z12,z15] 2 (cT rfl (sy [6,7] [1] (sp 97 [z20,z23]) [z15] 2 (Aw.ret (then_r ?_)))))))
   rw [some_some hh]
   exact gives (r':=.tup [.agg [.nil,.nil],bb false]) kr (Ent.list [none,none] rfl rfl (Nat.zero_le _) (rens_1 (ren_tup rz)) (hs_no dd rfl rfl (hs_no dd rfl rfl hs_nil)))
 refine yb 18 hb (yb 19 hb (yb 20 hb (yu 3 [(18,bb false),(19,bb false),(20,bb false),(21,.ptr 0 [] 1),(22,bo B_53 x_h.Guests),(23,ii x_g)] [z12,z15] 2 ?_)))
 obtain ⟨hg7,hh⟩:=grd_some hh
 refine yg (.iadr 17 (.t 22) (.t 23)) (some 24) 20 false (op_iadr (kd:=.i64) (c:=B_53) (xs:=x_h.Guests) len_B_53 dd kr kr hg7 ?_)
 refine yu 1 [(24,.bptr (fl B_53 x_h.Guests) (Int.toNat x_g*17)),(25,.bptr (fl B_53 x_h.Guests) (Int.toNat x_g*17+14))] [z12,z15] 2 (yg (.load false 1 (.t 25)) (some 26) 20 false (op_loadb (c:=B_53) (xs:=x_h.Guests) (o:=Int.toNat x_g*17+14) (i:=(Int.toNat x_g)) (off:=14) (v:=bo C_50 (z2.Pages)) len_B_53 kr ltn ltn dd kr ?_))
 refine yu 1 [(26,bo C_50 (z2.Pages)),(27,ii x_page)] [z12,z15] 2 ?_
 obtain ⟨hg8,hh⟩:=grd_some hh
 refine yg (.iadr 3 (.t 26) (.t 27)) (some 28) 20 false (op_iadr (kd:=.i64) (c:=C_50) (xs:=z2.Pages) len_C_50 dd kr kr hg8 ?_)
 refine yu 1 [(28,.bptr (fl C_50 (z2.Pages)) (Int.toNat x_page*3)),(29,.bptr (fl C_50 (z2.Pages)) (Int.toNat x_page*3+0))] [z12,z15] 2 (yg (.load false 1 (.t 29)) (some 30) 20 false (op_loadb (c:=C_50) (xs:=z2.Pages) (o:=Int.toNat x_page*3+0) (i:=(Int.toNat x_page)) (off:=0) (v:=ii (z4.Frame)) len_C_50 kr ltn ltn dd kr ?_))
 refine yt (sp 97 [z14,z16,z17,z20,z29]) [z12,z15] 2 ?_
 rcases cond_some hh with ⟨hb,hh⟩ | ⟨hb,hh⟩
 · refine cT hb (sy [6,7] [1] (sp 97 [z20,z23]) [z15] 2 (Aw.ret (then_r ?_)))
   rw [some_some hh]
   exact gives (r':=.tup [.agg [.nil,.nil],bb false]) kr (Ent.list [none,none] rfl rfl (Nat.zero_le _) (rens_1 (ren_tup rz)) (hs_no dd rfl rfl (hs_no dd rfl rfl hs_nil)))
 refine cF hb (Aw.xskip (fun _ _ _ hq=>then_m hq) (Aw.sreg [1,2,3,6,8] [0,1,2,3,4] (yj 1  (sp 97 [z14,z16,z17,z20,z29,(34,.agg (B_26 x_h))]) [z12,z15] 2 ?_)))
 obtain ⟨v3,hv3,hh⟩:=bind_some hh
 let z32:=(64,sw 2 v3.Words); let z33:EV:=(88,.sref 3 [] 0 (List.length v3.Guests) 17); let z3:=List.getD v3.Guests (Int.toNat x_g) default; let q1:Root:=⟨53,(fl O_53 v3.Guests)⟩; let z34:=(3,some q1); let q2:Root:=⟨3,(fl (eI .i64) v3.Words)⟩; let z35:=(2,some q2)
 refine ys (.call 76 [(.t 34)]) (some 35) (op_call (r:=.agg [.own 3 1 (List.length v3.Words) (fl (eI .i64) v3.Words),.own 53 17 (List.length v3.Guests) (fl O_53 v3.Guests)]) (v:=.agg [sw 2 v3.Words,.sref 3 [] 0 (List.length v3.Guests) 17]) (Hr:=[z34,z35]) (n':=4) (spec_l4Copy_fn hv3) (clz_v (vs:=[.agg (B_26 x_h)]) kr (clz_c (clo_same (clean_agg (cl_B_26 _))) clz_n)) (by simp only [AV.noRef,noRefs,Bool.and_self,noRefs_fl nr_eI,noRefs_fl nr_O_53]) (by simp only [AV.noBor,noBors,Bool.and_self,noBors_fl nb_eI,noBors_fl nb_O_53]) kr ?_)
 let q3:Root:=⟨26,[sw 2 v3.Words,.sref 3 [] 0 (List.length v3.Guests) 17]⟩; let z36:=(4,some q3)
 refine yt (sp 97 [z14,z16,z17,z20,z25]) [z12,z15,z35,z34,z36] 5 (Aw.sreg [1,2,3,6,8,9] [0,1,2,3,4,5] (yu 3 [(36,.ptr 0 [] 1),(37,bo B_53 x_h.Guests),(38,ii x_g)] [z12,z15,z35,z34,z36] 5 ?_))
 obtain ⟨hg11,hh⟩:=grd_some hh
 refine ys (.iadr 17 (.t 37) (.t 38)) (some 39) (op_iadr (kd:=.i64) (c:=B_53) (xs:=x_h.Guests) len_B_53 dd kr kr hg11 ?_)
 refine yu 1 [(39,.bptr (fl B_53 x_h.Guests) (Int.toNat x_g*17)),(40,.bptr (fl B_53 x_h.Guests) (Int.toNat x_g*17+14))] [z12,z15,z35,z34,z36] 5 (ys (.load false 1 (.t 40)) (some 41) (op_loadb (c:=B_53) (xs:=x_h.Guests) (o:=Int.toNat x_g*17+14) (i:=(Int.toNat x_g)) (off:=14) (v:=bo C_50 (z2.Pages)) len_B_53 kr ltn ltn dd kr ?_))
 refine yu 1 [(41,bo C_50 (z2.Pages)),(42,ii x_page)] [z12,z15,z35,z34,z36] 5 ?_
 obtain ⟨hg12,hh⟩:=grd_some hh
 refine ys (.iadr 3 (.t 41) (.t 42)) (some 43) (op_iadr (kd:=.i64) (c:=C_50) (xs:=z2.Pages) len_C_50 dd kr kr hg12 ?_)
 refine ys (.load true 3 (.t 43)) (some 44) (op_loadbA (c:=C_50) (xs:=z2.Pages) (o:=Int.toNat x_page*3) (i:=(Int.toNat x_page)) (off:=0) (v:=.agg [ii (z4.Frame),bb (z4.Write),bb (z4.Dirty)]) len_C_50 kr ltn ltn dd kr ?_)
 let q4:Root:=⟨50,[ii (z4.Frame),bb (z4.Write),bb (z4.Dirty)]⟩; let z37:=(5,some q4)
 refine yt (sp 97 [z14,z16,z17,z20,z25,z26]) [z12,z15,z35,z34,z36,z37] 6 ?_
 obtain ⟨j4,hh,hk4⟩:=bind_some hh
 refine Aw.join (S:=(List Int) × Int) (fun s4=>sp 97 [(1,ii x_g),(2,ii x_page),(6,pp 0),(8,pp 1),(9,pp 4)]) (fun s4=>[(0,some ⟨26,[.nil,.nil]⟩),(1,some ⟨26,[sw 2 s4.1,.sref 3 [] 0 (List.length v3.Guests) 17]⟩),(2,some ⟨3,(fl (eI .i64) s4.1)⟩),(3,some ⟨53,(fl O_53 v3.Guests)⟩),(4,some ⟨50,[ii s4.2,bb ((List.getD ((List.getD x_h.Guests (Int.toNat x_g) default).Pages) (Int.toNat x_page) default).Write),bb ((List.getD ((List.getD x_h.Guests (Int.toNat x_g) default).Pages) (Int.toNat x_page) default).Dirty)]⟩)]) 5 (fun s4=>F_spec_HostCopy_j4 x_h x_g x_page v3 s4=some R_) ?_ ?_
 · intro s4 hh
   let z38:EH:=(2,some ⟨3,(fl (eI .i64) s4.1)⟩); let z6:=DSlot.mk s4.2 true (z4.Dirty); let z9:=List.set (z3.Pages) (Int.toNat x_page) z6; let z10:=DGuest.mk (z3.Live) (z3.C) z9 (z3.In) (z3.Out)
   unfold F_spec_HostCopy_j4 at hh
   refine Aw.sreg [1,2,6,8,9] [0,1,2,3,4] ?_
   let q5:Root:=⟨26,[sw 2 s4.1,.sref 3 [] 0 (List.length v3.Guests) 17]⟩; let q6:Root:=⟨50,[ii s4.2,bb true,bb (z4.Dirty)]⟩
   refine yt (sp 97 [z14,z16,(6,pp 0),(8,pp 1),(9,pp 4)]) [z13,(1,some q5),z38,z34,(4,some q6)] 5 (Aw.sregt [6,8] [0,1,2,3] ?_)
   obtain ⟨hg40,hh⟩:=grd_some hh
   refine qc (cs:=[(0:Int)≤x_g∧x_g<(((List.length v3.Guests):Nat):Int)]) (E':=(sp 97 [z14,z16,(6,pp 0),(8,pp 1),(9,pp 4),(87,.ptr 1 [] 1),z33,(89,ii x_g),z27,z28])) (pre:=(List.take 5 Lf38_r14)) (L':=(List.drop 5 Lf38_r14)) kr (fun K=>by kernel_rfl) (.cons hg40 .nil) (qs (.load false 1 (.t 91)) (some 92) (yq_q rfl (op_load (c:=O_53) (xs:=v3.Guests) (e:=53) (r:=3) (π:=[]) (o:=0+(Int.toNat x_g)*17+14) (i:=(Int.toNat x_g)) (off:=14) (v:=.sref 3 [0+(Int.toNat x_g)*17+14+0] 0 (List.length (z3.Pages)) 3) len_O_53 kr kr ltn ltn dd kr ?_)))
   obtain ⟨hg39,hh⟩:=grd_some hh
   refine qtt (cs:=[(0:Int)≤x_page∧x_page<(((List.length (z3.Pages)):Nat):Int)]) (E':=(sp 97 [z14,z16,(6,pp 0),(8,pp 1),(9,pp 4),(87,.ptr 1 [] 1),z33,(89,ii x_g),z27,z28,(92,.sref 3 [0+(Int.toNat x_g)*17+14+0] 0 (List.length (z3.Pages)) 3),(93,ii x_page),(94,.agg [ii s4.2,bb true,bb (z4.Dirty)]),(95,.ptr 3 [0+(Int.toNat x_g)*17+14+0] (0+(Int.toNat x_page)*3))])) (fun K=>by kernel_rfl) (.cons hg39 .nil) ?_
   let q7:Root:=⟨53,(fl O_53 (List.set v3.Guests (Int.toNat x_g) z10))⟩
   refine ys (.store 3 (.t 95) (.t 94)) none (op_store (c:=C_50) (xs:=z3.Pages) (e:=50) (r:=3) (π:=[0+(Int.toNat x_g)*17+14+0]) (o:=0+(Int.toNat x_page)*3) (i:=(Int.toNat x_page)) (off:=0) (vs:=[ii s4.2,bb true,bb (z4.Dirty)]) (y:=z6) (H':=[(3,some q7),z13,(1,some q5),z38,z34,(4,some q6)]) len_C_50 kr kr kr (get_fl (e:=53) (e':=50) (sz':=3) (m':=(List.length (z3.Pages))) (cs':=(fl C_50 (z3.Pages))) (c:=O_53) (xs:=v3.Guests) (i:=(Int.toNat x_g)) (off:=14) len_O_53 kr ltn ltn dd rfl kr) ltn ltn dd kr (put_fl (e:=53) (e':=50) (sz':=3) (m':=(List.length (z3.Pages))) (cs':=(fl C_50 (z3.Pages))) (ds:=(fl C_50 z9)) (c:=O_53) (xs:=v3.Guests) (i:=(Int.toNat x_g)) (off:=14) (y:=z10) (m2:=(List.length z9)) len_O_53 kr ltn ltn dd rfl kr eqn kr rfl kr) ?_)
   refine yt (sp 97 [(6,pp 0),(8,pp 1)]) [z13,(1,some q5),z38,(3,some q7)] 5 (sy [6,7] [0,2,3] (sp 97 [(6,pp 0),(7,bb true)]) [(0,some q5),z38,(3,some q7)] 5 (Aw.ret ?_))
   rw [some_some hh]
   exact gives (r':=.tup [.agg [sw 2 s4.1,.sref 3 [] 0 (List.length v3.Guests) 17],bb true]) kr (Ent.list [some 2,some 3] rfl rfl (Nat.zero_le _) (rens_1 (ren_tup rz)) (hn nr_O_53 (hn nr_eI hs_nil)))
 intro Q4 hN4 hR4 hE4
 refine Aw.sregd [1,2,3,6,8,9,56] [0,1,2,3,4,5] [] kr (dc (cs:=[]) (E':=(sp 97 [z14,z16,z17,z20,z25,z26,z18,z30,(47,bb (!(z4.Write))),(48,bb (!(z4.Write)))])) (H':=[z12,z15,z35,z34,z36,z37]) (n':=6) (fs':=none) (pre:=(List.take 4 Lf38_r5)) (L':=z1) kr (fun K=>by kernel_rfl) .nil ?_)
 rcases cond_sf hh with ⟨hb,hh⟩ | ⟨hb,hh⟩
 · refine dbs (t:=47) hb kr (dbs (t:=48) hb kr (dct (cs:=[]) (E':=(sp 97 [z14,z16,z17,z20,z25,z26,z18,z30,(47,bb false),(48,bb false),(49,.und),(50,.und),(51,.und),(52,.und)])) (H':=[z12,z15,z35,z34,z36,z37]) (n':=6) (fun K=>by kernel_rfl) .nil (yt (sp 97 [z14,z16,z17,z20,z25,z26,(56,bb false)]) [z12,z15,z35,z34,z36,z37] 6 (cF rfl (Aw.skip ?_)))))
   obtain rfl:=some_some hh
   exact hN4 (v3.Words,z4.Frame) _ _ _ hk4 (el [some 1,some 4,some 2,some 3,some 5] (rens_sp kr (ri (ri (rp 1 (rp 4 (rp 5 rl_n)))))) (hq ⟨26,[.nil,.nil]⟩ rz (hq q3 rz (hn nr_eI (hn nr_O_53 (hq q4 rz hs_nil))))))
 refine dbs (t:=47) hb kr (dbs (t:=48) hb kr (dc (cs:=[]) (E':=(sp 97 [z14,z16,z17,z20,z25,z26,z18,z30,(47,bb true),(48,bb true),z19])) (H':=[z12,z15,z35,z34,z36,z37]) (n':=6) (fs':=none) (pre:=(List.take 1 z1)) (L':=(List.drop 5 Lf38_r5)) kr (fun K=>by kernel_rfl) .nil ?_))
 obtain ⟨v5,hv5,hh⟩:=bind_some hh
 let z39:EH:=(6,some ⟨3,(fl (eI .i64) v5)⟩); let z7:=List.getD v5 (Int.toNat (z4.Frame)) default
 refine dsg (op:=(.call 105 [(.t 49)])) (d:=(some 50)) (t:=48) (want:=true) (os:=(List.drop 6 Lf38_r5)) kr kr rfl (ydo_n rfl (op_call (r:=.own 3 1 (List.length v5) (fl (eI .i64) v5)) (v:=sw 6 v5) (Hr:=[z39]) (n':=7) (spec_l4Used_fn hv5) (clz_v (vs:=[.agg (B_26 x_h)]) kr (clz_c (clo_same (clean_agg (cl_B_26 _))) clz_n)) (by simp only [AV.noRef,noRefs,Bool.and_self,noRefs_fl nr_eI]) (by simp only [AV.noBor,noBors,Bool.and_self,noBors_fl nb_eI]) kr ⟨⟨agr_name (n:=6) (n0:=6) (r:=.own 3 1 (List.length v5) (fl (eI .i64) v5)) (v:=sw 6 v5) (Hr:=[z39]) (n':=7) kr dd,Hld.un ?_⟩⟩))
 refine dct (cs:=[]) (E':=(sp 97 [z14,z16,z17,z20,z25,z26,z18,z30,(47,bb true),(48,bb true),z19,(50,sw 6 v5),(51,pp 5),(52,ii (z4.Frame))])) (H':=[z39,z12,z15,z35,z34,z36,z37]) (n':=7) (fun K=>by kernel_rfl) .nil ?_
 obtain ⟨hg52,hh⟩:=grd_some hh
 refine yjc 1 [(0:Int)≤(z4.Frame)∧(z4.Frame)<(((List.length v5):Nat):Int)] (sp 97 [z14,z16,z17,z20,z25,z26,z18,z30,(47,bb true),(48,bb true),z19,(50,sw 6 v5),(51,pp 5),(52,ii (z4.Frame)),(53,.ptr 6 [] (0+(Int.toNat (z4.Frame))*1))]) [z39,z12,z15,z35,z34,z36,z37] 7 (.cons hg52 .nil) (yg (.load false 1 (.t 53)) (some 54) 48 true (op_load (c:=(eI .i64)) (xs:=v5) (e:=3) (r:=6) (π:=[]) (o:=0+(Int.toNat (z4.Frame))*1) (i:=(Int.toNat (z4.Frame))) (off:=0) (v:=ii z7) len_eI kr kr ltn ltn dd kr ?_))
 refine yt (sp 97 [z14,z16,z17,z20,z25,z26,(56,bb (decide ((1:Int)<z7)))]) [z12,z15,z35,z34,z36,z37] 7 ?_
 rcases cond_sf hh with ⟨hb,hh⟩ | ⟨hb,hh⟩
 · refine cF hb (Aw.skip ?_)
   obtain rfl:=some_some hh
   exact hN4 (v3.Words,z4.Frame) _ _ _ hk4 (el [some 1,some 4,some 2,some 3,some 5] (rens_sp kr (ri (ri (rp 1 (rp 4 (rp 5 rl_n)))))) (hq ⟨26,[.nil,.nil]⟩ rz (hq q3 rz (hn nr_eI (hn nr_O_53 (hq q4 rz hs_nil))))))
 refine cT hb (Aw.sreg [1,2,3,6,8,9,10] [0,1,2,3,4,5,7] (yu 1 [(57,.agg (B_26 x_h))] [z12,z15,z35,z34,z36,z37] 7 ?_))
 obtain ⟨v6,hv6,hh⟩:=bind_some hh
 let z40:=(10,sw 7 v6); let z41:=(61,bb (decide ((((List.length v6):Nat):Int)=(0:Int)))); let z42:=(65,sw 7 v6); let z43:=(67,ii (List.getD v6 0 default)); let z44:=(68,ii (w64 ((List.getD v6 0 default)*(8:Int)))); let z45:EH:=(7,some ⟨3,(fl (eI .i64) v6)⟩); let z46:=(71,ii (List.getD v6 0 default)); let z47:=(72,ii (w64 ((List.getD v6 0 default)+(1:Int)))); let z48:=(73,ii (w64 ((w64 ((List.getD v6 0 default)+(1:Int)))*(8:Int)))); let z49:EV:=(74,.sref 2 [] (0+Int.toNat (w64 ((List.getD v6 0 default)*(8:Int)))*1) (Int.toNat (w64 ((w64 ((List.getD v6 0 default)+(1:Int)))*(8:Int))) - Int.toNat (w64 ((List.getD v6 0 default)*(8:Int)))) 1); let z11:=over v3.Words (Int.toNat (w64 ((List.getD v6 0 default)*(8:Int)))) (Int.toNat (w64 ((w64 ((List.getD v6 0 default)+(1:Int)))*(8:Int))) - Int.toNat (w64 ((List.getD v6 0 default)*(8:Int)))) z8
 refine ys (.call 62 [(.t 57)]) (some 58) (op_call (r:=.own 3 1 (List.length v6) (fl (eI .i64) v6)) (v:=sw 7 v6) (Hr:=[z45]) (n':=8) (spec_HostFree_fn hv6) (clz_v (vs:=[.agg (B_26 x_h)]) kr (clz_c (clo_same (clean_agg (cl_B_26 _))) clz_n)) (by simp only [AV.noRef,noRefs,Bool.and_self,noRefs_fl nr_eI]) (by simp only [AV.noBor,noBors,Bool.and_self,noBors_fl nb_eI]) kr ?_)
 refine yt (sp 97 [z14,z16,z17,z20,z25,z26,z40]) [z12,z15,z35,z34,z36,z37,z45] 8 (Aw.seq (sy [1,2,3,6,8,9,10,61] [0,1,2,3,4,5,7] (sp 97 [z14,z16,z17,z20,z25,z26,z40,z41]) [z12,z15,z35,z34,z36,z37,z45] 8 ?_))
 rcases cond_some hh with ⟨hb,hh⟩ | ⟨hb,hh⟩
 · refine cT hb (sy [6,7] [1] (sp 97 [z20,z23]) [z15] 8 (Aw.ret (then_r ?_)))
   obtain rfl:=some_some hh
   refine hR4 _ _ _ ?_
   rw [some_some hk4]
   exact gives (r':=.tup [.agg [.nil,.nil],bb false]) kr (Ent.list [none,none] rfl rfl (Nat.zero_le _) (rens_1 (ren_tup rz)) (hs_no dd rfl rfl (hs_no dd rfl rfl hs_nil)))
 refine cF hb (Aw.xskip (fun _ _ _ hq=>then_m hq) (Aw.sregt [1,2,6,8,9,10] [1,2,3,4,5,7] ?_))
 obtain ⟨hg51,hh⟩:=grd_some hh
 refine qc (cs:=[(0:Int)≤(0:Int)∧(0:Int)<(((List.length v6):Nat):Int)]) (E':=(sp 97 [z14,z16,z17,z20,z25,z26,z40,z41,z21,z32,z42,z22])) (pre:=(List.take 4 Lf38_r10)) (L':=(List.drop 4 Lf38_r10)) kr (fun K=>by kernel_rfl) (.cons hg51 .nil) (qs (.load false 1 (.t 66)) (some 67) (yq_q rfl (op_load (c:=(eI .i64)) (xs:=v6) (e:=3) (r:=7) (π:=[]) (o:=0) (i:=0) (off:=0) (v:=ii (List.getD v6 0 default)) len_eI kr kr ltn ltn dd kr ?_)))
 obtain ⟨hg50,hh⟩:=grd_some hh
 refine qc (cs:=[(0:Int)≤(0:Int)∧(0:Int)<(((List.length v6):Nat):Int)]) (E':=(sp 97 [z14,z16,z17,z20,z25,z26,z40,z41,z21,z32,z42,z22,z43,z44,(69,sw 7 v6),(70,pp 7)])) (pre:=(List.take 3 (List.drop 5 Lf38_r10))) (L':=(List.drop 8 Lf38_r10)) kr (fun K=>by kernel_rfl) (.cons hg50 .nil) (qs (.load false 1 (.t 70)) (some 71) (yq_q rfl (op_load (c:=(eI .i64)) (xs:=v6) (e:=3) (r:=7) (π:=[]) (o:=0) (i:=0) (off:=0) (v:=ii (List.getD v6 0 default)) len_eI kr kr ltn ltn dd kr ?_)))
 refine qc (cs:=[]) (E':=(sp 97 [z14,z16,z17,z20,z25,z26,z40,z41,z21,z32,z42,z22,z43,z44,(69,sw 7 v6),(70,pp 7),z46,z47,z48])) (pre:=(List.take 2 (List.drop 9 Lf38_r10))) (L':=(List.drop 11 Lf38_r10)) kr (fun K=>by kernel_rfl) .nil ?_
 obtain ⟨hg49,hh⟩:=grd_some hh
 refine qs (.slc 1 (.t 64) (some (.t 68)) (some (.t 73))) (some 74) (yq_q rfl (op_slo (r:=2) (π:=[]) (o:=0) (k:=(List.length v3.Words)) (sz:=1) (l:=(w64 ((List.getD v6 0 default)*(8:Int)))) (h:=(w64 ((w64 ((List.getD v6 0 default)+(1:Int)))*(8:Int)))) kr kr kr hg49 ?_))
 refine qc (cs:=[]) (E':=(sp 97 [z14,z16,z17,z20,z25,z26,z40,z41,z21,z32,z42,z22,z43,z44,(69,sw 7 v6),(70,pp 7),z46,z47,z48,z49,(75,pp 0),z24,(77,pp 5),(78,ii (z4.Frame)),z31])) (pre:=(List.take 5 (List.drop 12 Lf38_r10))) (L':=(List.drop 17 Lf38_r10)) kr (fun K=>by kernel_rfl) .nil ?_
 obtain ⟨hg48,hh⟩:=grd_some hh
 refine qs (.slc 1 (.t 76) (some (.t 79)) none) (some 80) (yq_q rfl (op_slc (c:=(eI .i64)) (xs:=x_h.Words) (l:=(w64 ((z4.Frame)*(8:Int)))) (h:=((List.length x_h.Words:Nat):Int)) len_eI kr kr kr hg48 ?_))
 refine qtt (cs:=[]) (E':=(sp 97 [z14,z16,z17,z20,z25,z26,z40,z41,z21,z32,z42,z22,z43,z44,(69,sw 7 v6),(70,pp 7),z46,z47,z48,z49,(75,pp 0),z24,(77,pp 5),(78,ii (z4.Frame)),z31,(80,bo (eI .i64) z8)])) (fun K=>by kernel_rfl) .nil ?_
 let q8:Root:=⟨3,(fl (eI .i64) z11)⟩
 refine ys (.cpy 1 (.t 74) (.t 80)) (some 81) (op_cpy (c:=(eI .i64)) (xs:=v3.Words) (ys:=z8) (e:=3) (r:=2) (π:=[]) (o:=0+Int.toNat (w64 ((List.getD v6 0 default)*(8:Int)))*1) (k:=(Int.toNat (w64 ((w64 ((List.getD v6 0 default)+(1:Int)))*(8:Int))) - Int.toNat (w64 ((List.getD v6 0 default)*(8:Int))))) (i:=(Int.toNat (w64 ((List.getD v6 0 default)*(8:Int))))) (H':=[(2,some q8),z12,z15,z35,z34,z36,z37,z45]) len_eI (rpv kr (rp_bor (c:=(eI .i64)) (xs:=z8) len_eI)) kr kr ltn ltn kr ?_)
 refine yt (sp 97 [z14,z16,z20,z25,z26,z40]) [z15,(2,some q8),z34,z36,z37,z45] 8 (Aw.oreg ?_)
 obtain ⟨hg47,hh⟩:=grd_some hh
 refine yjc 2 [(0:Int)≤(0:Int)∧(0:Int)<(((List.length v6):Nat):Int)] (sp 97 [z14,z16,z20,z25,z26,z40,(82,sw 7 v6),(83,pp 7)]) [z15,(2,some q8),z34,z36,z37,z45] 8 (.cons hg47 .nil) (ys (.load false 1 (.t 83)) (some 84) (op_load (c:=(eI .i64)) (xs:=v6) (e:=3) (r:=7) (π:=[]) (o:=0) (i:=0) (off:=0) (v:=ii (List.getD v6 0 default)) len_eI kr kr ltn ltn dd kr ?_))
 let q9:Root:=⟨50,[ii (List.getD v6 0 default),bb (z4.Write),bb (z4.Dirty)]⟩
 refine ye (sp 97 [z14,z16,z20,z25,z26,z40,(82,sw 7 v6),(83,pp 7),(84,ii (List.getD v6 0 default)),(85,pp 5)]) [(5,some q9),z15,(2,some q8),z34,z36,z37,z45] 8 ?_
 obtain rfl:=some_some hh
 exact hN4 (z11,(List.getD v6 0 default)) _ _ _ hk4 (el [some 1,some 4,some 2,some 3,some 5] (rens_sp kr (ri (ri (rp 1 (rp 4 (rp 5 rl_n)))))) (hq ⟨26,[.nil,.nil]⟩ rz (hq q3 rz (hn nr_eI (hn nr_O_53 (hq q9 rz hs_nil))))))
end Go.Proofs.Ytlikfpmbcdlnjaa
