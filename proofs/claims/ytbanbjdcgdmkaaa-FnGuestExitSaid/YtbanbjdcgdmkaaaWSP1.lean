/- Plain functions of the program, and that it hands back what they say. Made by program. -/
import Derived.Test.YtbanbjdcgdmkaaaWT
import Derived.Test.YtbanbjdcgdmkaaaProg
import Derived.Test.YtbanbjdcgdmkaaaWHC1
import Derived.Test.YtbanbjdcgdmkaaaWHO1
import Derived.Test.YtbanbjdcgdmkaaaWO1
import Derived.Test.YtbanbjdcgdmkaaaWSL1
namespace Go.Proofs.Ytbanbjdcgdmkaaa
open Go.RowKit
set_option maxRecDepth 100000
set_option linter.all false
set_option maxHeartbeats 0
theorem low_impl_HostCopy:LW 26 ⟨50,[(.cell 6 true 2),(.tmp 7)],(.seq (.reg false (rg 26 0)) (.seq (.seq (.reg false (rg 26 1)) (.cond (.t 17) (.seq (.reg false (rg 26 2)) .ret) .skip)) (.seq (.reg false (rg 26 3)) (.seq (.seq (.reg false (rg 26 4)) (.cond (.t 30) (.seq (.reg false (rg 26 5)) .ret) .skip)) (.seq (.seq (.reg false (rg 26 6)) (.cond (.t 38) (.seq (.reg false (rg 26 7)) .ret) .skip)) (.seq (.reg false (rg 26 8)) .ret))))))⟩:=kr
noncomputable def F_impl_HostCopy (x_h:DHost) (x_g:Int) (x_page:Int):Option (DHost × Bool) :=
 Option.bind (F_impl_hasGuest x_h x_g) fun v1 =>
 cond (!v1)
  (some ((DHost.mk ([]:List Int) ([]:List DGuest)),false))
  (Option.bind (F_impl_pageOk x_page) fun v2 =>
  cond (!v2)
   (some ((DHost.mk ([]:List Int) ([]:List DGuest)),false))
   (grd ((0:Int)≤x_g∧x_g<((List.length x_h.Guests:Nat):Int)) (grd ((0:Int)≤x_page∧x_page<((List.length ((List.getD x_h.Guests (Int.toNat x_g) default).Pages):Nat):Int)) (cond (decide (((List.getD ((List.getD x_h.Guests (Int.toNat x_g) default).Pages) (Int.toNat x_page) default).Frame)=(-1:Int)))
    (some ((DHost.mk ([]:List Int) ([]:List DGuest)),false))
    (Option.bind (F_impl_frameTakers x_h.Guests) fun v3 =>
    grd ((0:Int)≤((List.getD ((List.getD x_h.Guests (Int.toNat x_g) default).Pages) (Int.toNat x_page) default).Frame)∧((List.getD ((List.getD x_h.Guests (Int.toNat x_g) default).Pages) (Int.toNat x_page) default).Frame)<(((List.length v3):Nat):Int)) (cond (decide ((List.getD v3 (Int.toNat ((List.getD ((List.getD x_h.Guests (Int.toNat x_g) default).Pages) (Int.toNat x_page) default).Frame)) default)=(1:Int)))
     (Option.bind (F_impl_inFrame x_h x_g x_page ((List.getD ((List.getD x_h.Guests (Int.toNat x_g) default).Pages) (Int.toNat x_page) default).Frame)) fun v4 =>
     some (v4,true))
     (Option.bind (F_impl_inFreeFrame x_h x_g x_page) fun v5 =>
     some (v5.1,v5.2))))))))
theorem impl_HostCopy_fn {x_h:DHost} {x_g:Int} {x_page:Int} {R_:DHost × Bool} (hh:F_impl_HostCopy x_h x_g x_page=some R_):Fn Try.prog 26 [.agg (B_41 x_h),.int .i64 x_g,.int .i64 x_page] (.tup [.agg [.own 3 1 (List.length R_.1.Words) (fl (eI .i64) R_.1.Words),.own 55 17 (List.length R_.1.Guests) (fl O_55 R_.1.Guests)],.bool R_.2]):=by
 let z4:EH:=(0,some (rB41 x_h)); let z5:=(1,ii x_g); let z6:EH:=(1,some ⟨41,[.nil,.nil]⟩); let z7:=(2,ii x_page); let z8:=(3,pp 0); let z9:=(6,pp 1); let z1:=List.getD x_h.Guests (Int.toNat x_g) default; let z2:=List.getD (z1.Pages) (Int.toNat x_page) default; let z10:=(30,bb (decide ((z2.Frame)=(-1:Int)))); let z11:=(8,ii (z2.Frame))
 unfold F_impl_HostCopy at hh
 refine Fn.start low_impl_HostCopy [0,1,2] (E:=sp 50 [(0,.agg (B_41 x_h)),z5,z7]) kr (v:=.tup [.agg [sw 0 R_.1.Words,.sref 1 [] 0 (List.length R_.1.Guests) 17],bb R_.2]) (Hr:=[(1,some (rO55 R_.1.Guests)),(0,some (rI_3 R_.1.Words))]) (k:=2) kr (sy [1,2,3,6] [0,1] (sp 50 [z5,z7,z8,z9]) [z4,z6] 2 (Aw.seq (Aw.sreg [1,2,3,6,17] [0,1] (yj 2  (sp 50 [z5,z7,z8,z9,(9,.agg (B_41 x_h)),(10,ii x_g)]) [z4,z6] 2 ?_))))
 obtain ⟨v1,hv1,hh⟩:=bind_some hh
 refine ys (.call 76 [(.t 9),(.t 10)]) (some 11) (op_call (r:=bb v1) (v:=bb v1) (Hr:=[]) (n':=2) (impl_hasGuest_fn hv1) (clz_v (vs:=[.agg (B_41 x_h),ii x_g]) kr (clz_c (clo_same (clean_agg (cl_B_41 _))) (cz1 clz_n))) rfl rfl kr ?_)
 refine yu 2 [(11,bb v1),(12,bb (!v1)),(13,bb (!v1))] [z4,z6] 2 ?_
 rcases cond_some hh with ⟨hb,hh⟩ | ⟨hb,hh⟩
 · refine yb 12 hb (yb 13 hb (yt (sp 50 [z5,z7,z8,z9,(17,bb true)]) [z4,z6] 2 (cT rfl (sy [6,7] [1] (sp 50 [z9,(7,bb false)]) [z6] 2 (Aw.ret (then_r ?_))))))
   rw [some_some hh]
   exact gives (r':=.tup [.agg [.nil,.nil],bb false]) kr (Ent.list [none,none] rfl rfl (Nat.zero_le _) (rens_1 (ren_tup rz)) (hs_no dd rfl rfl (hs_no dd rfl rfl hs_nil)))
 refine yb 12 hb (yb 13 hb (yu 1 [(12,bb false),(13,bb false),(14,ii x_page)] [z4,z6] 2 ?_))
 obtain ⟨v2,hv2,hh⟩:=bind_some hh
 refine yg (.call 83 [(.t 14)]) (some 15) 13 false (oc (impl_pageOk_fn hv2) ?_)
 refine yt (sp 50 [z5,z7,z8,z9,(17,bb (!v2))]) [z4,z6] 2 ?_
 rcases cond_some hh with ⟨hb,hh⟩ | ⟨hb,hh⟩
 · refine cT hb (sy [6,7] [1] (sp 50 [z9,(7,bb false)]) [z6] 2 (Aw.ret (then_r ?_)))
   rw [some_some hh]
   exact gives (r':=.tup [.agg [.nil,.nil],bb false]) kr (Ent.list [none,none] rfl rfl (Nat.zero_le _) (rens_1 (ren_tup rz)) (hs_no dd rfl rfl (hs_no dd rfl rfl hs_nil)))
 refine cF hb (Aw.xskip (fun _ _ _ hq=>then_m hq) (Aw.sreg [1,2,3,6,8] [0,1] (yj 3  (sp 50 [z5,z7,z8,z9,(17,bb (!v2)),(19,.ptr 0 [] 1),(20,bo B_55 x_h.Guests),(21,ii x_g)]) [z4,z6] 2 ?_)))
 obtain ⟨hg3,hh⟩:=grd_some hh
 refine ys (.iadr 17 (.t 20) (.t 21)) (some 22) (op_iadr (kd:=.i64) (c:=B_55) (xs:=x_h.Guests) len_B_55 dd kr kr hg3 ?_)
 refine yu 1 [(22,.bptr (fl B_55 x_h.Guests) (Int.toNat x_g*17)),(23,.bptr (fl B_55 x_h.Guests) (Int.toNat x_g*17+14))] [z4,z6] 2 (ys (.load false 1 (.t 23)) (some 24) (op_loadb (c:=B_55) (xs:=x_h.Guests) (o:=Int.toNat x_g*17+14) (i:=(Int.toNat x_g)) (off:=14) (v:=bo C_52 (z1.Pages)) len_B_55 kr ltn ltn dd kr ?_))
 refine yu 1 [(24,bo C_52 (z1.Pages)),(25,ii x_page)] [z4,z6] 2 ?_
 obtain ⟨hg4,hh⟩:=grd_some hh
 refine ys (.iadr 3 (.t 24) (.t 25)) (some 26) (op_iadr (kd:=.i64) (c:=C_52) (xs:=z1.Pages) len_C_52 dd kr kr hg4 ?_)
 refine yu 1 [(26,.bptr (fl C_52 (z1.Pages)) (Int.toNat x_page*3)),(27,.bptr (fl C_52 (z1.Pages)) (Int.toNat x_page*3+0))] [z4,z6] 2 (ys (.load false 1 (.t 27)) (some 28) (op_loadb (c:=C_52) (xs:=z1.Pages) (o:=Int.toNat x_page*3+0) (i:=(Int.toNat x_page)) (off:=0) (v:=ii (z2.Frame)) len_C_52 kr ltn ltn dd kr ?_))
 refine yt (sp 50 [z5,z7,z8,z9,z11]) [z4,z6] 2 (Aw.seq (sy [1,2,3,6,8,30] [0,1] (sp 50 [z5,z7,z8,z9,z11,z10]) [z4,z6] 2 ?_))
 rcases cond_some hh with ⟨hb,hh⟩ | ⟨hb,hh⟩
 · refine cT hb (sy [6,7] [1] (sp 50 [z9,(7,bb false)]) [z6] 2 (Aw.ret (then_r ?_)))
   rw [some_some hh]
   exact gives (r':=.tup [.agg [.nil,.nil],bb false]) kr (Ent.list [none,none] rfl rfl (Nat.zero_le _) (rens_1 (ren_tup rz)) (hs_no dd rfl rfl (hs_no dd rfl rfl hs_nil)))
 refine cF hb (Aw.xskip (fun _ _ _ hq=>then_m hq) (Aw.seq (Aw.sreg [1,2,3,6,8,38] [0,1] (yj 2  (sp 50 [z5,z7,z8,z9,z11,z10,(32,.ptr 0 [] 1),(33,bo B_55 x_h.Guests)]) [z4,z6] 2 ?_))))
 obtain ⟨v3,hv3,hh⟩:=bind_some hh
 let z12:EH:=(2,some (rI_3 v3)); let z3:=List.getD v3 (Int.toNat (z2.Frame)) default; let z13:=(38,bb (decide (z3=(1:Int))))
 refine ys (.call 86 [(.t 33)]) (some 34) (op_call (r:=.own 3 1 (List.length v3) (fl (eI .i64) v3)) (v:=sw 2 v3) (Hr:=[z12]) (n':=3) (impl_frameTakers_fn hv3) (clz_v (vs:=[bo B_55 x_h.Guests]) kr (clz_c (clo_same (clean_bor (cleans_fl cl_B_55))) clz_n)) nrr nrr kr ?_)
 obtain ⟨hg8,hh⟩:=grd_some hh
 refine yjc 2 [(0:Int)≤(z2.Frame)∧(z2.Frame)<(((List.length v3):Nat):Int)] (sp 50 [z5,z7,z8,z9,z11,z10,(32,.ptr 0 [] 1),(33,bo B_55 x_h.Guests),(34,sw 2 v3),(35,ii (z2.Frame)),(36,.ptr 2 [] (0+(Int.toNat (z2.Frame))*1))]) [z12,z4,z6] 3 (.cons hg8 .nil) (ys (.load false 1 (.t 36)) (some 37) (op_load (c:=(eI .i64)) (xs:=v3) (e:=3) (r:=2) (π:=[]) (o:=0+(Int.toNat (z2.Frame))*1) (i:=(Int.toNat (z2.Frame))) (off:=0) (v:=ii z3) len_eI kr kr ltn ltn dd kr ?_))
 refine yt (sp 50 [z5,z7,z8,z9,z11,z13]) [z4,z6] 3 ?_
 rcases cond_some hh with ⟨hb,hh⟩ | ⟨hb,hh⟩
 · refine cT hb (Aw.sreg [6,7] [1,3,4] (yu 4 [(39,.agg (B_41 x_h)),(40,ii x_g),(41,ii x_page),(42,ii (z2.Frame))] [z4,z6] 3 ?_))
   obtain ⟨v4,hv4,hh⟩:=bind_some hh
   let q1:Root:=(rO55 v4.Guests); let q2:Root:=(rI_3 v4.Words)
   refine ys (.call 87 [(.t 39),(.t 40),(.t 41),(.t 42)]) (some 43) (op_call (r:=.agg [.own 3 1 (List.length v4.Words) (fl (eI .i64) v4.Words),.own 55 17 (List.length v4.Guests) (fl O_55 v4.Guests)]) (v:=.agg [sw 3 v4.Words,.sref 4 [] 0 (List.length v4.Guests) 17]) (Hr:=[(4,some q1),(3,some q2)]) (n':=5) (impl_inFrame_fn hv4) (clz_v (vs:=[.agg (B_41 x_h),ii x_g,ii x_page,ii (z2.Frame)]) kr (clz_c (clo_same (clean_agg (cl_B_41 _))) (cz1 (cz1 (cz1 clz_n))))) nrr nrr kr ?_)
   refine yt (sp 50 [z9,(7,bb true)]) [(1,some ⟨41,[sw 3 v4.Words,.sref 4 [] 0 (List.length v4.Guests) 17]⟩),(3,some q2),(4,some q1)] 5 (Aw.ret (then_r ?_))
   rw [some_some hh]
   exact gives (r':=.tup [.agg [sw 3 v4.Words,.sref 4 [] 0 (List.length v4.Guests) 17],bb true]) kr (Ent.list [some 3,some 4] rfl rfl (Nat.zero_le _) (rens_1 (ren_tup rz)) (hn nr_O_55 (hn nr_eI hs_nil)))
 refine cF hb (Aw.xskip (fun _ _ _ hq=>then_m hq) (Aw.sreg [6,7] [1,3,4] (yj 3  (sp 50 [z5,z7,z8,z9,z11,z13,(44,.agg (B_41 x_h)),(45,ii x_g),(46,ii x_page)]) [z4,z6] 3 ?_)))
 obtain ⟨v5,hv5,hh⟩:=bind_some hh
 let q3:Root:=(rO55 v5.1.Guests); let q4:Root:=(rI_3 v5.1.Words)
 refine ys (.call 85 [(.t 44),(.t 45),(.t 46)]) (some 47) (op_call (r:=.tup [.agg [.own 3 1 (List.length v5.1.Words) (fl (eI .i64) v5.1.Words),.own 55 17 (List.length v5.1.Guests) (fl O_55 v5.1.Guests)],bb v5.2]) (v:=.tup [.agg [sw 3 v5.1.Words,.sref 4 [] 0 (List.length v5.1.Guests) 17],bb v5.2]) (Hr:=[(4,some q3),(3,some q4)]) (n':=5) (impl_inFreeFrame_fn hv5) (clz_v (vs:=[.agg (B_41 x_h),ii x_g,ii x_page]) kr (clz_c (clo_same (clean_agg (cl_B_41 _))) (cz1 (cz1 clz_n)))) nrr nrr kr ?_)
 refine yt (sp 50 [z9,(7,bb v5.2)]) [(1,some ⟨41,[sw 3 v5.1.Words,.sref 4 [] 0 (List.length v5.1.Guests) 17]⟩),(3,some q4),(4,some q3)] 5 (Aw.ret ?_)
 rw [some_some hh]
 exact gives (r':=.tup [.agg [sw 3 v5.1.Words,.sref 4 [] 0 (List.length v5.1.Guests) 17],bb v5.2]) kr (Ent.list [some 3,some 4] rfl rfl (Nat.zero_le _) (rens_1 (ren_tup rz)) (hn nr_O_55 (hn nr_eI hs_nil)))
end Go.Proofs.Ytbanbjdcgdmkaaa
