/- Plain functions of the program, and that it hands back what they say. Made by program. -/
import Derived.Test.YtlikfpmbcdlnjaaWT
import Derived.Test.YtlikfpmbcdlnjaaProg
import Derived.Test.YtlikfpmbcdlnjaaWHC1
namespace Go.Proofs.Ytlikfpmbcdlnjaa
open Go.RowKit
set_option maxRecDepth 100000
set_option linter.all false
set_option maxHeartbeats 0
def Lf158_r0:List LOper:=[oo 2 (.mv (.c .nil))]
def Lf158_r1:List LOper:=[om 4 0,oH 5 4,oo 6 (.mk 50 3 16 [(ii 0),(bb false),(bb false)] (.t 5)),om 3 6]
def Lf158_r2:List LOper:=[om 7 3,om 8 0,oo 9 (.cpy 3 (.t 7) (.t 8))]
def Lf158_r3:List LOper:=[om 10 3,om 2 10]
def Lf158:LFun:=⟨11,[(.tmp 2)],(.seq (.reg false Lf158_r0) (.seq (.reg false Lf158_r1) (.seq (.reg false Lf158_r2) (.seq (.reg false Lf158_r3) .ret))))⟩
theorem low_impl_copiedSlots:lowFun Go.Proofs.Try.prog 158=some Lf158:=by kernel_rfl
noncomputable def F_impl_copiedSlots (x_pages:List DSlot):Option (List DSlot) :=
 grd ((0:Int)≤(((List.length x_pages):Nat):Int)∧(((List.length x_pages):Nat):Int)*16≤2 ^ 47∧(((List.length x_pages):Nat):Int)≤2 ^ 47) (some (over (List.replicate (Int.toNat (((List.length x_pages):Nat):Int)) (DSlot.mk (0:Int) false false)) 0 (List.length (List.replicate (Int.toNat (((List.length x_pages):Nat):Int)) (DSlot.mk (0:Int) false false))) x_pages))
theorem impl_copiedSlots_fn {x_pages:List DSlot} {R_:(List DSlot)} (hh:F_impl_copiedSlots x_pages=some R_):Fn Try.prog 158 [bo C_50 x_pages] (.own 50 3 (List.length R_) (fl C_50 R_)):=by
 let z2:=(0,bo C_50 x_pages); let z1:=DSlot.mk (0:Int) false false; let z3:EV:=(3,.sref 0 [] 0 (List.length (List.replicate (Int.toNat (((List.length x_pages):Nat):Int)) z1)) 3)
 unfold F_impl_copiedSlots at hh
 refine Fn.start low_impl_copiedSlots [0] (E:=sp 11 [z2]) kr (v:=.sref 0 [] 0 (List.length R_) 3) (Hr:=[(0,some ⟨50,(fl C_50 R_)⟩)]) (k:=1) kr (sy [0] [] (sp 11 [z2]) [] 0 (Aw.sreg [0,3] [0] (yu 2 [(4,bo C_50 x_pages),(5,ii (((List.length x_pages):Nat):Int))] [] 0 ?_)))
 obtain ⟨hg2,hh⟩:=grd_some hh
 refine ys (.mk 50 3 16 [(ii 0),(bb false),(bb false)] (.t 5)) (some 6) (op_mk (c:=C_50) (d:=z1) (k:=(((List.length x_pages):Nat):Int)) kr hg2 kr ?_)
 let q1:Root:=⟨50,(fl C_50 (List.replicate (Int.toNat (((List.length x_pages):Nat):Int)) z1))⟩
 refine yt (sp 11 [z2,z3]) [(0,some q1)] 1 (Aw.sreg [3] [0] (yu 2 [(7,.sref 0 [] 0 (List.length (List.replicate (Int.toNat (((List.length x_pages):Nat):Int)) z1)) 3),(8,bo C_50 x_pages)] [(0,some q1)] 1 ?_))
 let q2:Root:=⟨50,(fl C_50 (over (List.replicate (Int.toNat (((List.length x_pages):Nat):Int)) z1) 0 (List.length (List.replicate (Int.toNat (((List.length x_pages):Nat):Int)) z1)) x_pages))⟩
 refine ys (.cpy 3 (.t 7) (.t 8)) (some 9) (op_cpy (c:=C_50) (xs:=(List.replicate (Int.toNat (((List.length x_pages):Nat):Int)) z1)) (ys:=x_pages) (e:=50) (r:=0) (π:=[]) (o:=0) (k:=(List.length (List.replicate (Int.toNat (((List.length x_pages):Nat):Int)) z1))) (i:=0) (H':=[(0,some q2),(0,some q1)]) len_C_50 (rpv kr (rp_bor (c:=C_50) (xs:=x_pages) len_C_50)) kr kr ltn ltn kr ?_)
 refine yt (sp 11 [z3]) [(0,some q2)] 1 (sy [2] [0] (sp 11 [(2,.sref 0 [] 0 (List.length (List.replicate (Int.toNat (((List.length x_pages):Nat):Int)) z1)) 3)]) [(0,some q2)] 1 (Aw.ret ?_))
 rw [some_some hh]
 exact gives (r':=.sref 0 [] 0 (List.length (List.replicate (Int.toNat (((List.length x_pages):Nat):Int)) z1)) 3) kr (Ent.list [some 0] rfl rfl (Nat.zero_le _) (rens_1 ren_sy) (hn nr_C_50 hs_nil))
def Lf151_r0:List LOper:=[oX 1 53 0,oo 2 (.fresh 53 zc2)]
def Lf151_r1:List LOper:=[oA 3 0 1,ol 4 3,oU 5 4]
def Lf151_r2:List LOper:=[oo 6 (.bld zc2 []),oS 17 2 6]
def Lf151_r3:List LOper:=[oA 7 1 1,oA 8 0 7,ol 9 8,oK 10 124 [9],oA 11 1 1,oA 12 0 11,oS 1 12 10]
def Lf151_r4:List LOper:=[oA 13 14 1,ol 14 13,oK 15 158 [14],oA 16 14 1,oS 1 16 15]
def Lf151_r5:List LOper:=[oA 17 15 1,ol 18 17,oK 19 124 [18],oA 20 15 1,oS 1 20 19]
def Lf151_r6:List LOper:=[oA 21 16 1,ol 22 21,oK 23 124 [22],oA 24 16 1,oS 1 24 23]
def Lf151_r7:List LOper:=[oL 25 17 1,oS 17 2 25]
def Lf151:LFun:=⟨26,[(.cell 2 true 17)],(.seq (.reg false Lf151_r0) (.seq (.seq (.reg false Lf151_r1) (.cond (.t 5) (.seq (.reg false Lf151_r2) .ret) .skip)) (.seq (.reg false Lf151_r3) (.seq (.reg false Lf151_r4) (.seq (.reg false Lf151_r5) (.seq (.reg false Lf151_r6) (.seq (.reg false Lf151_r7) .ret)))))))⟩
theorem low_impl_copiedGuest:lowFun Go.Proofs.Try.prog 151=some Lf151:=by kernel_rfl
noncomputable def F_impl_copiedGuest (x_guest:DGuest):Option DGuest :=
 cond (!x_guest.Live)
  (some (DGuest.mk false (DCore.mk ([]:List Int) (0:Int) (0:Int) (0:Int) (0:Int) false (0:Int) (0:Int) (0:Int) false false false false) ([]:List DSlot) ([]:List Int) ([]:List Int)))
  (Option.bind (F_impl_copied x_guest.C.Regs) fun v1 =>
  Option.bind (F_impl_copiedSlots x_guest.Pages) fun v2 =>
  Option.bind (F_impl_copied x_guest.In) fun v3 =>
  Option.bind (F_impl_copied x_guest.Out) fun v4 =>
  some (DGuest.mk x_guest.Live (DCore.mk v1 x_guest.C.Pc x_guest.C.Root x_guest.C.Vector x_guest.C.Saved x_guest.C.SavedUser x_guest.C.Cause x_guest.C.Bad x_guest.C.Timer x_guest.C.Waits x_guest.C.User x_guest.C.On x_guest.C.Stopped) v2 v3 v4))
theorem impl_copiedGuest_fn {x_guest:DGuest} {R_:DGuest} (hh:F_impl_copiedGuest x_guest=some R_):Fn Try.prog 151 [.agg (B_53 x_guest)] (.agg (.bool R_.Live :: .own 3 1 (List.length R_.C.Regs) (fl (eI .i64) R_.C.Regs)::ru28 R_.C [.own 50 3 (List.length R_.Pages) (fl C_50 R_.Pages),.own 3 1 (List.length R_.In) (fl (eI .i64) R_.In),.own 3 1 (List.length R_.Out) (fl (eI .i64) R_.Out)])):=by
 let z1:EH:=(0,some ⟨53,(B_53 x_guest)⟩); let z2:=(1,pp 0); let z3:=(2,pp 1)
 unfold F_impl_copiedGuest at hh
 refine Fn.start low_impl_copiedGuest [0] (E:=sp 26 [(0,.agg (B_53 x_guest))]) kr (v:=.agg (bb R_.Live::sw 0 R_.C.Regs::ru28 R_.C [.sref 1 [] 0 (List.length R_.Pages) 3,sw 2 R_.In,sw 3 R_.Out])) (Hr:=[(3,some ⟨3,(fl (eI .i64) R_.Out)⟩),(2,some ⟨3,(fl (eI .i64) R_.In)⟩),(1,some ⟨50,(fl C_50 R_.Pages)⟩),(0,some ⟨3,(fl (eI .i64) R_.C.Regs)⟩)]) (k:=4) kr (Aw.sreg [1,2] [0,1] ?_)
 let q1:Root:=⟨53,(bb false :: .nil::zru28 [.nil,.nil,.nil])⟩; let z4:=(1,some q1)
 refine yt (sp 26 [z2,z3]) [z1,z4] 2 (Aw.seq (sy [1,2,5] [0,1] (sp 26 [z2,z3,(5,bb (!x_guest.Live))]) [z1,z4] 2 ?_))
 rcases cond_some hh with ⟨hb,hh⟩ | ⟨hb,hh⟩
 · refine cT hb (sy [2] [1] (sp 26 [z3]) [z4] 2 (Aw.ret (then_r ?_)))
   rw [some_some hh]
   exact gives (r':=.agg (bb false :: .nil::zru28 [.nil,.nil,.nil])) kr (Ent.list [none,none,none,none] rfl rfl (Nat.zero_le _) (rens_1 (ren_agg rz)) (hs_no dd rfl rfl (hs_no dd rfl rfl (hs_no dd rfl rfl (hs_no dd rfl rfl hs_nil)))))
 refine cF hb (Aw.xskip (fun _ _ _ hq=>then_m hq) (Aw.sreg [1,2] [0,1,2] (yj 3  (sp 26 [z2,z3,(5,bb (!x_guest.Live)),(7,.ptr 0 [] 1),(8,.ptr 0 [] 1),(9,bo (eI .i64) x_guest.C.Regs)]) [z1,z4] 2 ?_)))
 obtain ⟨v1,hv1,hh⟩:=bind_some hh
 let z5:EH:=(2,some ⟨3,(fl (eI .i64) v1)⟩)
 refine ys (.call 124 [(.t 9)]) (some 10) (op_call (r:=.own 3 1 (List.length v1) (fl (eI .i64) v1)) (v:=sw 2 v1) (Hr:=[z5]) (n':=3) (impl_copied_fn hv1) (clz_v (vs:=[bo (eI .i64) x_guest.C.Regs]) kr (clz_c (clo_same (clean_bor (cleans_fl cl_eI))) clz_n)) (by simp only [AV.noRef,noRefs,Bool.and_self,noRefs_fl nr_eI]) (by simp only [AV.noBor,noBors,Bool.and_self,noBors_fl nb_eI]) kr ?_)
 let q2:Root:=⟨53,(bb x_guest.Live::sw 2 v1::ru28 x_guest.C [bo C_50 x_guest.Pages,bo (eI .i64) x_guest.In,bo (eI .i64) x_guest.Out])⟩
 refine yt (sp 26 [z2,z3]) [(0,some q2),z4,z5] 3 (Aw.sreg [1,2] [0,1,2,3] (yu 2 [(13,.ptr 0 [] 14),(14,bo C_50 x_guest.Pages)] [(0,some q2),z4,z5] 3 ?_))
 obtain ⟨v2,hv2,hh⟩:=bind_some hh
 let z6:EH:=(3,some ⟨50,(fl C_50 v2)⟩)
 refine ys (.call 158 [(.t 14)]) (some 15) (op_call (r:=.own 50 3 (List.length v2) (fl C_50 v2)) (v:=.sref 3 [] 0 (List.length v2) 3) (Hr:=[z6]) (n':=4) (impl_copiedSlots_fn hv2) (clz_v (vs:=[bo C_50 x_guest.Pages]) kr (clz_c (clo_same (clean_bor (cleans_fl cl_C_50))) clz_n)) (by simp only [AV.noRef,noRefs,Bool.and_self,noRefs_fl nr_C_50]) (by simp only [AV.noBor,noBors,Bool.and_self,noBors_fl nb_C_50]) kr ?_)
 let q3:Root:=⟨53,(bb x_guest.Live::sw 2 v1::ru28 x_guest.C [.sref 3 [] 0 (List.length v2) 3,bo (eI .i64) x_guest.In,bo (eI .i64) x_guest.Out])⟩
 refine yt (sp 26 [z2,z3]) [(0,some q3),z4,z5,z6] 4 (Aw.sreg [1,2] [0,1,2,3,4] (yu 2 [(17,.ptr 0 [] 15),(18,bo (eI .i64) x_guest.In)] [(0,some q3),z4,z5,z6] 4 ?_))
 obtain ⟨v3,hv3,hh⟩:=bind_some hh
 let z7:EH:=(4,some ⟨3,(fl (eI .i64) v3)⟩)
 refine ys (.call 124 [(.t 18)]) (some 19) (op_call (r:=.own 3 1 (List.length v3) (fl (eI .i64) v3)) (v:=sw 4 v3) (Hr:=[z7]) (n':=5) (impl_copied_fn hv3) (clz_v (vs:=[bo (eI .i64) x_guest.In]) kr (clz_c (clo_same (clean_bor (cleans_fl cl_eI))) clz_n)) (by simp only [AV.noRef,noRefs,Bool.and_self,noRefs_fl nr_eI]) (by simp only [AV.noBor,noBors,Bool.and_self,noBors_fl nb_eI]) kr ?_)
 let q4:Root:=⟨53,(bb x_guest.Live::sw 2 v1::ru28 x_guest.C [.sref 3 [] 0 (List.length v2) 3,sw 4 v3,bo (eI .i64) x_guest.Out])⟩
 refine yt (sp 26 [z2,z3]) [(0,some q4),z4,z5,z6,z7] 5 (Aw.sreg [1,2] [0,1,2,3,4,5] (yu 2 [(21,.ptr 0 [] 16),(22,bo (eI .i64) x_guest.Out)] [(0,some q4),z4,z5,z6,z7] 5 ?_))
 obtain ⟨v4,hv4,hh⟩:=bind_some hh
 let z8:EH:=(5,some ⟨3,(fl (eI .i64) v4)⟩)
 refine ys (.call 124 [(.t 22)]) (some 23) (op_call (r:=.own 3 1 (List.length v4) (fl (eI .i64) v4)) (v:=sw 5 v4) (Hr:=[z8]) (n':=6) (impl_copied_fn hv4) (clz_v (vs:=[bo (eI .i64) x_guest.Out]) kr (clz_c (clo_same (clean_bor (cleans_fl cl_eI))) clz_n)) (by simp only [AV.noRef,noRefs,Bool.and_self,noRefs_fl nr_eI]) (by simp only [AV.noBor,noBors,Bool.and_self,noBors_fl nb_eI]) kr ?_)
 let q5:Root:=⟨53,(bb x_guest.Live::sw 2 v1::ru28 x_guest.C [.sref 3 [] 0 (List.length v2) 3,sw 4 v3,sw 5 v4])⟩
 refine yt (sp 26 [z2,z3]) [(0,some q5),z4,z5,z6,z7,z8] 6 (sy [2] [1,2,3,4,5] (sp 26 [z3]) [(1,some q5),z5,z6,z7,z8] 6 (Aw.ret ?_))
 rw [some_some hh]
 exact gives (r':=.agg (bb x_guest.Live::sw 2 v1::ru28 x_guest.C [.sref 3 [] 0 (List.length v2) 3,sw 4 v3,sw 5 v4])) kr (Ent.list [some 2,some 3,some 4,some 5] rfl rfl (Nat.zero_le _) (rens_1 (ren_agg rz)) (hn nr_eI (hn nr_eI (hn nr_C_50 (hn nr_eI hs_nil)))))
def Lf135_r0:List LOper:=[oo 2 (.mv (.c .nil))]
def Lf135_r1:List LOper:=[om 6 0,oH 7 6,oo 8 (.mk 53 17 176 zc2 (.t 7)),om 3 8]
def Lf135_r2:List LOper:=[om 9 0,oH 10 9,oN 11 0]
def Lf135_r3:List LOper:=[oB 12 .lss 11 10]
def Lf135_r4:List LOper:=[om 13 11,oi 14 17 9 11,oL 15 17 14,oo 5 (.fresh 53 zc2),om 4 13,oS 17 5 15]
def Lf135_r5:List LOper:=[om 16 3,om 17 4,oL 18 17 5,oK 19 151 [18],oi 20 17 16 17,oS 17 20 19]
def Lf135_r6:List LOper:=[ob 21 .add 11 1,om 11 21]
def Lf135_l7:LCode:=(.seq (.reg false Lf135_r3) (.seq (.cond (.t 12) .skip (.exit 0)) (.seq (.block 1 (.seq (.reg false Lf135_r4) (.reg false Lf135_r5))) (.reg false Lf135_r6))))
def Lf135_r8:List LOper:=[om 22 3,om 2 22]
def Lf135:LFun:=⟨23,[(.tmp 2)],(.seq (.reg false Lf135_r0) (.seq (.reg false Lf135_r1) (.seq (.seq (.reg false Lf135_r2) (.block 0 (.loop Lf135_l7))) (.seq (.reg false Lf135_r8) .ret))))⟩
theorem low_impl_copiedGuests:lowFun Go.Proofs.Try.prog 135=some Lf135:=by kernel_rfl
noncomputable def F_impl_copiedGuests_j1  (s1:(List DGuest)):Option (List DGuest) :=
 some s1
noncomputable def F_impl_copiedGuests_l2 (x_guests:List DGuest) (s2:(List DGuest) × Int):Option (LO ((List DGuest) × Int) (JO (List DGuest) (List DGuest))) :=
 cond (decide (s2.2<(((List.length x_guests):Nat):Int)))
  (grd ((0:Int)≤s2.2∧s2.2<((List.length x_guests:Nat):Int)) (Option.bind (F_impl_copiedGuest (DGuest.mk ((List.getD x_guests (Int.toNat s2.2) default).Live) (DCore.mk (((List.getD x_guests (Int.toNat s2.2) default).C).Regs) (((List.getD x_guests (Int.toNat s2.2) default).C).Pc) (((List.getD x_guests (Int.toNat s2.2) default).C).Root) (((List.getD x_guests (Int.toNat s2.2) default).C).Vector) (((List.getD x_guests (Int.toNat s2.2) default).C).Saved) (((List.getD x_guests (Int.toNat s2.2) default).C).SavedUser) (((List.getD x_guests (Int.toNat s2.2) default).C).Cause) (((List.getD x_guests (Int.toNat s2.2) default).C).Bad) (((List.getD x_guests (Int.toNat s2.2) default).C).Timer) (((List.getD x_guests (Int.toNat s2.2) default).C).Waits) (((List.getD x_guests (Int.toNat s2.2) default).C).User) (((List.getD x_guests (Int.toNat s2.2) default).C).On) (((List.getD x_guests (Int.toNat s2.2) default).C).Stopped)) ((List.getD x_guests (Int.toNat s2.2) default).Pages) ((List.getD x_guests (Int.toNat s2.2) default).In) ((List.getD x_guests (Int.toNat s2.2) default).Out))) fun v3 =>
   grd ((0:Int)≤s2.2∧s2.2<(((List.length s2.1):Nat):Int)) (some (.next ((List.set s2.1 (Int.toNat s2.2) v3),(w64 (s2.2+(1:Int))))))))
  (some (.ret (.go s2.1)))
noncomputable def F_impl_copiedGuests (x_guests:List DGuest):Option (List DGuest) :=
 grd ((0:Int)≤(((List.length x_guests):Nat):Int)∧(((List.length x_guests):Nat):Int)*176≤2 ^ 47∧(((List.length x_guests):Nat):Int)≤2 ^ 47) (Option.bind (Option.bind (iter (F_impl_copiedGuests_l2 x_guests) ((List.replicate (Int.toNat (((List.length x_guests):Nat):Int)) (DGuest.mk false (DCore.mk ([]:List Int) (0:Int) (0:Int) (0:Int) (0:Int) false (0:Int) (0:Int) (0:Int) false false false false) ([]:List DSlot) ([]:List Int) ([]:List Int))),(0:Int))) LO.val) fun j1 =>
  JO.run j1 (F_impl_copiedGuests_j1))
theorem impl_copiedGuests_fn {x_guests:List DGuest} {R_:(List DGuest)} (hh:F_impl_copiedGuests x_guests=some R_):Fn Try.prog 135 [bo B_53 x_guests] (.own 53 17 (List.length R_) (fl O_53 R_)):=by
 let z5:=(0,bo B_53 x_guests); let z6:=(10,ii (((List.length x_guests):Nat):Int)); let z7:=(9,bo B_53 x_guests); let z1:=DCore.mk ([]:List Int) (0:Int) (0:Int) (0:Int) (0:Int) false (0:Int) (0:Int) (0:Int) false false false false; let z4:=DGuest.mk false z1 ([]:List DSlot) ([]:List Int) ([]:List Int); let z8:EV:=(3,.sref 1 [] 0 (List.length (List.replicate (Int.toNat (((List.length x_guests):Nat):Int)) z4)) 17)
 unfold F_impl_copiedGuests at hh
 refine Fn.start low_impl_copiedGuests [0] (E:=sp 23 [z5]) kr (v:=.sref 0 [] 0 (List.length R_) 17) (Hr:=[(0,some ⟨53,(fl O_53 R_)⟩)]) (k:=1) kr (sy [0] [] (sp 23 [z5]) [] 0 (Aw.sreg [0,3] [0] (yu 2 [(6,bo B_53 x_guests),(7,ii (((List.length x_guests):Nat):Int))] [] 0 ?_)))
 obtain ⟨hg50,hh⟩:=grd_some hh
 refine ys (.mk 53 17 176 zc2 (.t 7)) (some 8) (op_mkR (z:=(bb false :: .nil::zru28 [.nil,.nil,.nil])) (k:=(((List.length x_guests):Nat):Int)) kr hg50 ?_)
 refine yt (sp 23 [z5,(3,.sref 0 [] 0 (Int.toNat (((List.length x_guests):Nat):Int)) 17)]) [(0,some ⟨53,(repeatCells (bb false :: .nil::zru28 [.nil,.nil,.nil]) (Int.toNat (((List.length x_guests):Nat):Int)))⟩)] 1 (Aw.ent (Ent.foldM (c:=O_53) (k:=Int.toNat (((List.length x_guests):Nat):Int)) (d:=z4) (R:=0) (e:=53) (us2:=sp 23 [z5,z8]) (H2:=[]) (L:=[none,some none,none,none,none,none,none,none,none,none,none,none,none,none,some none,some none,some none]) (ws:=(bb false :: .own 3 1 0 []::zru28 [.own 50 3 0 [],.own 3 1 0 [],.own 3 1 0 []])) dd kr kr (fcs_s (fcs_0 (fcs_s (fcs_s (fcs_s (fcs_s (fcs_s (fcs_s (fcs_s (fcs_s (fcs_s (fcs_s (fcs_s (fcs_s (fcs_0 (fcs_0 (fcs_0 fcs_n))))))))))))))))) rfl (rds_sp kr (rdl_c (u:=bo B_53 x_guests) kr (.same _) (rdl_c (u:=.sref 0 [] 0 (Int.toNat (((List.length x_guests):Nat):Int)) 17) kr (.sref _ _ _ _ eqn) rdl_n))) hd_n) ?_)
 obtain ⟨j1,hh,hk1⟩:=bind_some hh
 refine Aw.join (S:=(List DGuest)) (fun s1=>sp 23 [(3,.sref 0 [] 0 (List.length s1) 17)]) (fun s1=>[(0,some ⟨53,(fl O_53 s1)⟩)]) 1 (fun s1=>F_impl_copiedGuests_j1 s1=some R_) ?_ ?_
 · intro s1 hh
   unfold F_impl_copiedGuests_j1 at hh
   refine sy [2] [0] (sp 23 [(2,.sref 0 [] 0 (List.length s1) 17)]) [(0,some ⟨53,(fl O_53 s1)⟩)] 1 (Aw.ret ?_)
   rw [some_some hh]
   exact gives (r':=.sref 0 [] 0 (List.length s1) 17) kr (Ent.list [some 0] rfl rfl (Nat.zero_le _) (rens_1 ren_sy) (hn nr_O_53 hs_nil))
 intro Q1 hN1 hR1 hE1
 refine Aw.sreg [3,9,10,11] [1] ?_
 let q1:Root:=⟨53,(fl O_53 (List.replicate (Int.toNat (((List.length x_guests):Nat):Int)) z4))⟩
 refine yt (sp 23 [z8,z7,z6,(11,ii 0)]) [(1,some q1)] 2 (Aw.block ?_)
 obtain ⟨o2,hi2,hk2⟩:=bind_some hh
 refine Aw.iter (fun (s2:(List DGuest) × Int)=>sp 23 [(3,.sref 0 [] 0 (List.length s2.1) 17),(9,bo B_53 x_guests),(10,ii (((List.length x_guests):Nat):Int)),(11,ii s2.2)]) (fun (s2:(List DGuest) × Int)=>[(0,some ⟨53,(fl O_53 s2.1)⟩)]) 1 hi2 (el [some 1] (rens_sp kr (rs (.sref 1 [] 0 (List.length (List.replicate (Int.toNat (((List.length x_guests):Nat):Int)) (DGuest.mk false (DCore.mk ([]:List Int) (0:Int) (0:Int) (0:Int) (0:Int) false (0:Int) (0:Int) (0:Int) false false false false) ([]:List DSlot) ([]:List Int) ([]:List Int)))) 17) (ro nr_B_53 (ri (ri rl_n))))) (hn nr_O_53 hs_nil)) ?_
 intro s2 u2 Q2 hh hN2 hX2 hR2
 let z9:EH:=(0,some ⟨53,(fl O_53 s2.1)⟩); let z10:=(11,ii s2.2); let z11:=(12,bb (decide (s2.2<(((List.length x_guests):Nat):Int)))); let z12:EV:=(16,.sref 0 [] 0 (List.length s2.1) 17); let z13:EV:=(3,.sref 0 [] 0 (List.length s2.1) 17); let z14:EV:=(3,.sref 6 [] 0 (List.length s2.1) 17); let z2:=List.getD x_guests (Int.toNat s2.2) default
 unfold F_impl_copiedGuests_l2 at hh
 refine sy [3,9,10,11,12] [0] (sp 23 [z13,z7,z6,z10,z11]) [z9] 1 (Aw.seq ?_)
 rcases cond_sf hh with ⟨hb,hh⟩ | ⟨hb,hh⟩
 · refine cF hb (Aw.exit (then_x (hX2 _ _ _ _ _ (some_some hh) ?_)))
   intro hout
   rw [hout] at hk2
   refine blk_x ?_
   obtain rfl:=some_some hk2
   exact hN1 s2.1 _ _ _ hk1 (el [some 0] (rens_sp kr (rs (.sref 0 [] 0 (List.length s2.1) 17) rl_n)) (hn nr_O_53 hs_nil))
 refine cT hb (Aw.xskip (fun _ _ _ hq=>then_m hq) (Aw.seq (Aw.block (Aw.sreg [3,4,5,9,10,11] [0,1] (yj 1  (sp 23 [z13,z7,z6,z10,z11,(13,ii s2.2)]) [z9] 1 ?_)))))
 obtain ⟨hg47,hh⟩:=grd_some hh
 refine ys (.iadr 17 (.t 9) (.t 11)) (some 14) (op_iadr (kd:=.i64) (c:=B_53) (xs:=x_guests) len_B_53 dd kr kr hg47 ?_)
 refine ys (.load true 17 (.t 14)) (some 15) (op_loadbA (c:=B_53) (xs:=x_guests) (o:=Int.toNat s2.2*17) (i:=(Int.toNat s2.2)) (off:=0) (v:=.agg (B_53 z2)) len_B_53 kr ltn ltn dd kr ?_)
 let q2:Root:=⟨53,(B_53 z2)⟩
 refine yt (sp 23 [z13,(4,ii s2.2),(5,pp 1),z7,z6,z10]) [z9,(1,some q2)] 2 (Aw.xreg [3,9,10,11] [0,2,3,4,5] (fun _ _ _ hq=>blk_m (then_m hq)) (yj 3  (sp 23 [z13,(4,ii s2.2),(5,pp 1),z7,z6,z10,z12,(17,ii s2.2),(18,.agg (B_53 z2))]) [z9,(1,some q2)] 2 ?_))
 obtain ⟨v3,hv3,hh⟩:=bind_some hh
 let z15:EH:=(3,some ⟨50,(fl C_50 v3.Pages)⟩); let z3:=List.set s2.1 (Int.toNat s2.2) v3; let q3:Root:=⟨3,(fl (eI .i64) v3.Out)⟩; let q4:Root:=⟨3,(fl (eI .i64) v3.In)⟩; let q5:Root:=⟨3,(fl (eI .i64) v3.C.Regs)⟩
 refine ys (.call 151 [(.t 18)]) (some 19) (op_call (r:=.agg (bb v3.Live :: .own 3 1 (List.length v3.C.Regs) (fl (eI .i64) v3.C.Regs)::ru28 v3.C [.own 50 3 (List.length v3.Pages) (fl C_50 v3.Pages),.own 3 1 (List.length v3.In) (fl (eI .i64) v3.In),.own 3 1 (List.length v3.Out) (fl (eI .i64) v3.Out)])) (v:=.agg (bb v3.Live::sw 2 v3.C.Regs::ru28 v3.C [.sref 3 [] 0 (List.length v3.Pages) 3,sw 4 v3.In,sw 5 v3.Out])) (Hr:=[(5,some q3),(4,some q4),z15,(2,some q5)]) (n':=6) (impl_copiedGuest_fn hv3) (clz_v (vs:=[.agg (B_53 z2)]) kr (clz_c (clo_agg cz) clz_n)) (by simp only [ru28,AV.noRef,noRefs,Bool.and_self,noRefs_fl nr_eI,noRefs_fl nr_C_50]) (by simp only [ru28,AV.noBor,noBors,Bool.and_self,noBors_fl nb_eI,noBors_fl nb_C_50]) kr ?_)
 obtain ⟨hg49,hh⟩:=grd_some hh
 refine yjc 1 [(0:Int)≤s2.2∧s2.2<(((List.length s2.1):Nat):Int)] (sp 23 [z13,(4,ii s2.2),(5,pp 1),z7,z6,z10,z12,(17,ii s2.2),(18,.agg (B_53 z2)),(19,.agg (bb v3.Live::sw 2 v3.C.Regs::ru28 v3.C [.sref 3 [] 0 (List.length v3.Pages) 3,sw 4 v3.In,sw 5 v3.Out])),(20,.ptr 0 [] (0+(Int.toNat s2.2)*17))]) [(5,some q3),(4,some q4),z15,(2,some q5),z9,(1,some q2)] 6 (.cons hg49 .nil) (ys (.store 17 (.t 20) (.t 19)) none (op_storeR (c:=O_53) (xs:=s2.1) (e:=53) (r:=0) (o:=0+(Int.toNat s2.2)*17) (i:=(Int.toNat s2.2)) (off:=0) (vs:=(bb v3.Live::sw 2 v3.C.Regs::ru28 v3.C [.sref 3 [] 0 (List.length v3.Pages) 3,sw 4 v3.In,sw 5 v3.Out])) len_O_53 kr kr kr kr ltn ltn dd ?_))
 refine yt (sp 23 [z13,z7,z6,z10]) [(0,some ⟨53,(setCells (fl O_53 s2.1) (0+(Int.toNat s2.2)*17) (bb v3.Live::sw 2 v3.C.Regs::ru28 v3.C [.sref 3 [] 0 (List.length v3.Pages) 3,sw 4 v3.In,sw 5 v3.Out]))⟩),(2,some q5),z15,(4,some q4),(5,some q3)] 6 (Aw.ent (Ent.foldP (c:=O_53) (xs:=s2.1) (i:=(Int.toNat s2.2)) (off:=0) (o:=0+(Int.toNat s2.2)*17) (y:=v3) (R:=0) (e:=53) (us2:=sp 23 [z14,z7,z6,z10]) (H2:=[]) (L:=[none,some (some 2),none,none,none,none,none,none,none,none,none,none,none,none,some (some 3),some (some 4),some (some 5)]) (ws:=(bb v3.Live :: .own 3 1 (List.length v3.C.Regs) (fl (eI .i64) v3.C.Regs)::ru28 v3.C [.own 50 3 (List.length v3.Pages) (fl C_50 v3.Pages),.own 3 1 (List.length v3.In) (fl (eI .i64) v3.In),.own 3 1 (List.length v3.Out) (fl (eI .i64) v3.Out)])) len_O_53 kr ltn ltn (Nat.le_of_ble_eq_true rfl) kr (fcs_s (fcs_r kr eqn (fcs_s (fcs_s (fcs_s (fcs_s (fcs_s (fcs_s (fcs_s (fcs_s (fcs_s (fcs_s (fcs_s (fcs_s (fcs_r kr eqn (fcs_r kr eqn (fcs_r kr eqn fcs_n))))))))))))))))) (by rfl) (by rfl) (rds_sp kr (rdl_c (u:=.sref 0 [] 0 (List.length s2.1) 17) kr (.sref _ _ _ _ eqn) (rdl_c (u:=bo B_53 x_guests) kr (.same _) (rdl_c (u:=ii (((List.length x_guests):Nat):Int)) kr (.same _) (rdl_c (u:=ii s2.2) kr (.same _) rdl_n))))) hd_n) (Aw.oreg ?_))
 let q6:Root:=⟨53,(fl O_53 z3)⟩
 exact ye (sp 23 [z14,z7,z6,(11,ii (w64 (s2.2+(1:Int)))),(21,ii (w64 (s2.2+(1:Int))))]) [(6,some q6)] 7 (hN2 (z3,(w64 (s2.2+(1:Int)))) _ _ _ (some_some hh) (el [some 6] (rens_sp kr (rs (.sref 6 [] 0 (List.length s2.1) 17) (ro nr_B_53 (ri (ri rl_n))))) (hn nr_O_53 hs_nil)))
def Lf74_r0:List LOper:=[oX 5 53 2,oo 6 (.mv (.c .nil))]
def Lf74_r1:List LOper:=[om 8 0,oK 9 135 [8],om 7 9]
def Lf74_r2:List LOper:=[om 10 7,om 11 1,oL 12 17 5,oi 13 17 10 11,oS 17 13 12]
def Lf74_r3:List LOper:=[om 14 7,om 6 14]
def Lf74:LFun:=⟨15,[(.tmp 6)],(.seq (.reg false Lf74_r0) (.seq (.reg false Lf74_r1) (.seq (.reg false Lf74_r2) (.seq (.reg false Lf74_r3) .ret))))⟩
theorem low_impl_withGuest:lowFun Go.Proofs.Try.prog 74=some Lf74:=by kernel_rfl
noncomputable def F_impl_withGuest (x_guests:List DGuest) (x_g:Int) (x_guest:DGuest):Option (List DGuest) :=
 Option.bind (F_impl_copiedGuests x_guests) fun v1 =>
 grd ((0:Int)≤x_g∧x_g<(((List.length v1):Nat):Int)) (some (List.set v1 (Int.toNat x_g) x_guest))
theorem impl_withGuest_fn {x_guests:List DGuest} {x_g:Int} {x_guest:DGuest} {R_:(List DGuest)} (hh:F_impl_withGuest x_guests x_g x_guest=some R_):Inl Try.prog 74 [bo B_53 x_guests,.int .i64 x_g,.agg (.bool x_guest.Live :: .sref 0 [] 0 (List.length x_guest.C.Regs) 1::ru28 x_guest.C [.sref 1 [] 0 (List.length x_guest.Pages) 3,.sref 2 [] 0 (List.length x_guest.In) 1,.sref 3 [] 0 (List.length x_guest.Out) 1])] [(3,some ⟨3,(fl (eI .i64) x_guest.Out)⟩),(2,some ⟨3,(fl (eI .i64) x_guest.In)⟩),(1,some ⟨50,(fl C_50 x_guest.Pages)⟩),(0,some ⟨3,(fl (eI .i64) x_guest.C.Regs)⟩)] 4 (.sref 4 [] 0 (List.length R_) 17) [(4,some ⟨53,(fl O_53 R_)⟩)] 5:=by
 unfold F_impl_withGuest at hh
 let q1:Root:=⟨3,(fl (eI .i64) x_guest.C.Regs)⟩; let z1:=(0,some q1); let q2:Root:=⟨50,(fl C_50 x_guest.Pages)⟩; let z2:=(1,some q2); let q3:Root:=⟨3,(fl (eI .i64) x_guest.In)⟩; let z3:=(2,some q3); let q4:Root:=⟨3,(fl (eI .i64) x_guest.Out)⟩; let z4:=(3,some q4)
 refine Inl.start low_impl_withGuest [0,1,2] [0,1,2,3] (E:=sp 15 [(0,bo B_53 x_guests),(1,ii x_g),(2,.agg (bb x_guest.Live::sw 0 x_guest.C.Regs::ru28 x_guest.C [.sref 1 [] 0 (List.length x_guest.Pages) 3,sw 2 x_guest.In,sw 3 x_guest.Out]))]) (H1:=[z1,z2,z3,z4]) kr kr (Aw.sreg [0,1,5] [0,1,2,3,4] ?_)
 let q5:Root:=⟨53,(bb x_guest.Live::sw 0 x_guest.C.Regs::ru28 x_guest.C [.sref 1 [] 0 (List.length x_guest.Pages) 3,sw 2 x_guest.In,sw 3 x_guest.Out])⟩
 refine yt (sp 15 [(0,bo B_53 x_guests),(1,ii x_g),(5,pp 4)]) [z1,z2,z3,z4,(4,some q5)] 5 (Aw.sreg [1,5,7] [0,1,2,3,4,5] (yu 1 [(8,bo B_53 x_guests)] [z1,z2,z3,z4,(4,some q5)] 5 ?_))
 obtain ⟨v1,hv1,hh⟩:=bind_some hh
 let z5:EH:=(5,some ⟨53,(fl O_53 v1)⟩); let z6:EV:=(7,.sref 5 [] 0 (List.length v1) 17)
 refine ys (.call 135 [(.t 8)]) (some 9) (op_call (r:=.own 53 17 (List.length v1) (fl O_53 v1)) (v:=.sref 5 [] 0 (List.length v1) 17) (Hr:=[z5]) (n':=6) (impl_copiedGuests_fn hv1) (clz_v (vs:=[bo B_53 x_guests]) kr (clz_c (clo_same (clean_bor (cleans_fl cl_B_53))) clz_n)) (by simp only [AV.noRef,noRefs,Bool.and_self,noRefs_fl nr_O_53]) (by simp only [AV.noBor,noBors,Bool.and_self,noBors_fl nb_O_53]) kr ?_)
 refine yt (sp 15 [(1,ii x_g),(5,pp 4),z6]) [z1,z2,z3,z4,(4,some q5),z5] 6 (Aw.sreg [7] [0,1,2,3,5] ?_)
 obtain ⟨hg2,hh⟩:=grd_some hh
 refine yjc 4 [(0:Int)≤x_g∧x_g<(((List.length v1):Nat):Int)] (sp 15 [(1,ii x_g),(5,pp 4),z6,(10,.sref 5 [] 0 (List.length v1) 17),(11,ii x_g),(12,.agg (bb x_guest.Live::sw 0 x_guest.C.Regs::ru28 x_guest.C [.sref 1 [] 0 (List.length x_guest.Pages) 3,sw 2 x_guest.In,sw 3 x_guest.Out])),(13,.ptr 5 [] (0+(Int.toNat x_g)*17))]) [z1,z2,z3,z4,(4,some q5),z5] 6 (.cons hg2 .nil) (ys (.store 17 (.t 13) (.t 12)) none (op_storeR (c:=O_53) (xs:=v1) (e:=53) (r:=5) (o:=0+(Int.toNat x_g)*17) (i:=(Int.toNat x_g)) (off:=0) (vs:=(bb x_guest.Live::sw 0 x_guest.C.Regs::ru28 x_guest.C [.sref 1 [] 0 (List.length x_guest.Pages) 3,sw 2 x_guest.In,sw 3 x_guest.Out])) len_O_53 kr kr kr kr ltn ltn dd ?_))
 refine yt (sp 15 [z6]) [z1,z2,z3,z4,(5,some ⟨53,(setCells (fl O_53 v1) (0+(Int.toNat x_g)*17) (bb x_guest.Live::sw 0 x_guest.C.Regs::ru28 x_guest.C [.sref 1 [] 0 (List.length x_guest.Pages) 3,sw 2 x_guest.In,sw 3 x_guest.Out]))⟩)] 6 (Aw.ent (Ent.foldP (c:=O_53) (xs:=v1) (i:=(Int.toNat x_g)) (off:=0) (o:=0+(Int.toNat x_g)*17) (y:=x_guest) (R:=5) (e:=53) (us2:=sp 15 [(7,.sref 6 [] 0 (List.length v1) 17)]) (H2:=[]) (L:=[none,some (some 0),none,none,none,none,none,none,none,none,none,none,none,none,some (some 1),some (some 2),some (some 3)]) (ws:=(bb x_guest.Live :: .own 3 1 (List.length x_guest.C.Regs) (fl (eI .i64) x_guest.C.Regs)::ru28 x_guest.C [.own 50 3 (List.length x_guest.Pages) (fl C_50 x_guest.Pages),.own 3 1 (List.length x_guest.In) (fl (eI .i64) x_guest.In),.own 3 1 (List.length x_guest.Out) (fl (eI .i64) x_guest.Out)])) len_O_53 kr ltn ltn (Nat.le_of_ble_eq_true rfl) kr (fcs_s (fcs_r kr eqn (fcs_s (fcs_s (fcs_s (fcs_s (fcs_s (fcs_s (fcs_s (fcs_s (fcs_s (fcs_s (fcs_s (fcs_s (fcs_r kr eqn (fcs_r kr eqn (fcs_r kr eqn fcs_n))))))))))))))))) (by rfl) (by rfl) (rds_sp kr (rdl_c (u:=.sref 5 [] 0 (List.length v1) 17) kr (.sref _ _ _ _ eqn) rdl_n)) hd_n) (Aw.sreg [6] [6] ?_))
 let q6:Root:=⟨53,(fl O_53 (List.set v1 (Int.toNat x_g) x_guest))⟩
 refine yt (sp 15 [(6,.sref 6 [] 0 (List.length v1) 17)]) [(6,some q6)] 7 (Aw.ret ?_)
 rw [some_some hh]
 exact gives (r':=.sref 6 [] 0 (List.length v1) 17) kr (el [some 0,some 1,some 2,some 3,some 6] (rens_1 ren_sy) (hn nr_O_53 hs_nil))
def Lf137_r0:List LOper:=[oX 1 53 0,oo 2 (.fresh 53 zc2)]
def Lf137_r1:List LOper:=[oA 3 0 1,ol 4 3,oU 5 4]
def Lf137_r2:List LOper:=[oo 6 (.bld zc2 []),oS 17 2 6]
def Lf137_r3:List LOper:=[oA 7 1 1,oL 8 13 7,oK 9 77 [8],oo 10 (.bsl 50 3 0 [(ii 0),(bb false),(bb false)] []),oA 11 14 1,ol 12 11,oo 13 (.app 50 3 16 [(ii 0),(bb false),(bb false)] (.t 10) (.t 12)),oo 14 (.bsl 3 1 0 [(ii 0)] []),oA 15 15 1,ol 16 15,oo 17 (.app 3 1 8 [(ii 0)] (.t 14) (.t 16)),oo 18 (.bsl 3 1 0 [(ii 0)] []),oA 19 16 1,ol 20 19]
def Lf137_r3t:List LOper:=[oo 21 (.app 3 1 8 [(ii 0)] (.t 18) (.t 20)),oo 22 (.bld zc2 [(0,(1,(.c (bb true)))),(1,(13,(.t 9))),(14,(1,(.t 13))),(15,(1,(.t 17))),(16,(1,(.t 21)))]),oS 17 2 22]
def Lf137:LFun:=⟨23,[(.cell 2 true 17)],(.seq (.reg false Lf137_r0) (.seq (.seq (.reg false Lf137_r1) (.cond (.t 5) (.seq (.reg false Lf137_r2) .ret) .skip)) (.seq (.regd Lf137_r3 Lf137_r3t) .ret)))⟩
theorem low_spec_l4Guest:lowFun Go.Proofs.Try.prog 137=some Lf137:=by kernel_rfl
noncomputable def F_spec_l4Guest (x_g:DGuest):Option DGuest :=
 cond (!x_g.Live)
  (some (DGuest.mk false (DCore.mk ([]:List Int) (0:Int) (0:Int) (0:Int) (0:Int) false (0:Int) (0:Int) (0:Int) false false false false) ([]:List DSlot) ([]:List Int) ([]:List Int)))
  (Option.bind (F_spec_l3Core x_g.C) fun v1 =>
  grd (List.length x_g.Pages*16≤2 ^ 47∧List.length x_g.Pages≤2 ^ 47) (grd (List.length x_g.In*8≤2 ^ 47∧List.length x_g.In≤2 ^ 47) (grd (List.length x_g.Out*8≤2 ^ 47∧List.length x_g.Out≤2 ^ 47) (some (DGuest.mk true v1 x_g.Pages x_g.In x_g.Out)))))
theorem spec_l4Guest_fn {x_g:DGuest} {R_:DGuest} (hh:F_spec_l4Guest x_g=some R_):Fn Try.prog 137 [.agg (B_53 x_g)] (.agg (.bool R_.Live :: .own 3 1 (List.length R_.C.Regs) (fl (eI .i64) R_.C.Regs)::ru28 R_.C [.own 50 3 (List.length R_.Pages) (fl C_50 R_.Pages),.own 3 1 (List.length R_.In) (fl (eI .i64) R_.In),.own 3 1 (List.length R_.Out) (fl (eI .i64) R_.Out)])):=by
 let z1:EH:=(0,some ⟨53,(B_53 x_g)⟩); let z2:=(1,pp 0); let z3:=(12,bo C_50 x_g.Pages); let z4:EV:=(13,.sref 3 [] 0 (List.length x_g.Pages) 3); let z5:=(2,pp 1); let z6:=(5,bb (!x_g.Live)); let z7:EV:=(7,.ptr 0 [] 1); let z8:EV:=(8,.agg (B_28 x_g.C))
 unfold F_spec_l4Guest at hh
 refine Fn.start low_spec_l4Guest [0] (E:=sp 23 [(0,.agg (B_53 x_g))]) kr (v:=.agg (bb R_.Live::sw 0 R_.C.Regs::ru28 R_.C [.sref 1 [] 0 (List.length R_.Pages) 3,sw 2 R_.In,sw 3 R_.Out])) (Hr:=[(3,some ⟨3,(fl (eI .i64) R_.Out)⟩),(2,some ⟨3,(fl (eI .i64) R_.In)⟩),(1,some ⟨50,(fl C_50 R_.Pages)⟩),(0,some ⟨3,(fl (eI .i64) R_.C.Regs)⟩)]) (k:=4) kr (Aw.sreg [1,2] [0,1] ?_)
 let q1:Root:=⟨53,(bb false :: .nil::zru28 [.nil,.nil,.nil])⟩; let z9:=(1,some q1)
 refine yt (sp 23 [z2,z5]) [z1,z9] 2 (Aw.seq (sy [1,2,5] [0,1] (sp 23 [z2,z5,z6]) [z1,z9] 2 ?_))
 rcases cond_some hh with ⟨hb,hh⟩ | ⟨hb,hh⟩
 · refine cT hb (sy [2] [1] (sp 23 [z5]) [z9] 2 (Aw.ret (then_r ?_)))
   rw [some_some hh]
   exact gives (r':=.agg (bb false :: .nil::zru28 [.nil,.nil,.nil])) kr (Ent.list [none,none,none,none] rfl rfl (Nat.zero_le _) (rens_1 (ren_agg rz)) (hs_no dd rfl rfl (hs_no dd rfl rfl (hs_no dd rfl rfl (hs_no dd rfl rfl hs_nil)))))
 refine cF hb (Aw.xskip (fun _ _ _ hq=>then_m hq) (Aw.sregd [2] [1,2,3,4,5] [] kr (dc (cs:=[]) (E':=(sp 23 [z2,z5,z6,z7,z8])) (H':=[z1,z9]) (n':=2) (fs':=none) (pre:=(List.take 2 Lf137_r3)) (L':=(List.drop 2 Lf137_r3)) kr (fun K=>by kernel_rfl) .nil ?_)))
 obtain ⟨v1,hv1,hh⟩:=bind_some hh
 let z10:EV:=(9,.agg (sw 2 v1.Regs::ru28 v1 [])); let q2:Root:=⟨3,(fl (eI .i64) v1.Regs)⟩; let z11:=(2,some q2)
 refine ds (.call 77 [(.t 8)]) (some 9) (ydo_n rfl (op_call (r:=.agg (.own 3 1 (List.length v1.Regs) (fl (eI .i64) v1.Regs)::ru28 v1 [])) (v:=.agg (sw 2 v1.Regs::ru28 v1 [])) (Hr:=[z11]) (n':=3) (spec_l3Core_fn hv1) (clz_v (vs:=[.agg (B_28 x_g.C)]) kr (clz_c (clo_same (clean_agg (cl_B_28 _))) clz_n)) (by simp only [ru28,AV.noRef,noRefs,Bool.and_self,noRefs_fl nr_eI]) (by simp only [ru28,AV.noBor,noBors,Bool.and_self,noBors_fl nb_eI]) kr ⟨⟨agr_name (n:=2) (n0:=2) (r:=.agg (.own 3 1 (List.length v1.Regs) (fl (eI .i64) v1.Regs)::ru28 v1 [])) (v:=.agg (sw 2 v1.Regs::ru28 v1 [])) (Hr:=[z11]) (n':=3) kr dd,Hld.un ?_⟩⟩))
 refine dc (cs:=[]) (E':=(sp 23 [z2,z5,z6,z7,z8,z10,(10,.emp),(11,.ptr 0 [] 14),z3])) (H':=[z11,z1,z9]) (n':=3) (fs':=none) (pre:=(List.take 3 (List.drop 3 Lf137_r3))) (L':=(List.drop 6 Lf137_r3)) kr (fun K=>by kernel_rfl) .nil ?_
 obtain ⟨hg6,hh⟩:=grd_some hh
 refine ds (.app 50 3 16 [(ii 0),(bb false),(bb false)] (.t 10) (.t 12)) (some 13) (ydo_n rfl (op_app0 (c:=C_50) (ys:=x_g.Pages) (rpv kr (rp_bor (c:=C_50) (xs:=x_g.Pages) len_C_50)) (.inr kr) hg6 ⟨⟨Agr.cons dd,Hld.un ?_⟩⟩))
 let q3:Root:=⟨50,(fl C_50 x_g.Pages)⟩
 refine dc (cs:=[]) (E':=(sp 23 [z2,z5,z6,z7,z8,z10,(10,.emp),(11,.ptr 0 [] 14),z3,z4,(14,.emp),(15,.ptr 0 [] 15),(16,bo (eI .i64) x_g.In)])) (H':=[(3,some q3),z11,z1,z9]) (n':=4) (fs':=none) (pre:=(List.take 3 (List.drop 7 Lf137_r3))) (L':=(List.drop 10 Lf137_r3)) kr (fun K=>by kernel_rfl) .nil ?_
 obtain ⟨hg5,hh⟩:=grd_some hh
 refine ds (.app 3 1 8 [(ii 0)] (.t 14) (.t 16)) (some 17) (ydo_n rfl (op_app0 (c:=(eI .i64)) (ys:=x_g.In) (rpv kr (rp_bor (c:=(eI .i64)) (xs:=x_g.In) len_eI)) (.inr kr) hg5 ⟨⟨Agr.cons dd,Hld.un ?_⟩⟩))
 let q4:Root:=⟨3,(fl (eI .i64) x_g.In)⟩
 refine dct (cs:=[]) (E':=(sp 23 [z2,z5,z6,z7,z8,z10,(10,.emp),(11,.ptr 0 [] 14),z3,z4,(14,.emp),(15,.ptr 0 [] 15),(16,bo (eI .i64) x_g.In),(17,sw 4 x_g.In),(18,.emp),(19,.ptr 0 [] 16),(20,bo (eI .i64) x_g.Out)])) (H':=[(4,some q4),(3,some q3),z11,z1,z9]) (n':=5) (fun K=>by kernel_rfl) .nil ?_
 obtain ⟨hg4,hh⟩:=grd_some hh
 refine ys (.app 3 1 8 [(ii 0)] (.t 18) (.t 20)) (some 21) (op_app0 (c:=(eI .i64)) (ys:=x_g.Out) (rpv kr (rp_bor (c:=(eI .i64)) (xs:=x_g.Out) len_eI)) (.inr kr) hg4 ?_)
 let q5:Root:=⟨3,(fl (eI .i64) x_g.Out)⟩
 refine yt (sp 23 [z5]) [(1,some ⟨53,(bb true::sw 2 v1.Regs::ru28 v1 [.sref 3 [] 0 (List.length x_g.Pages) 3,sw 4 x_g.In,sw 5 x_g.Out])⟩),z11,(3,some q3),(4,some q4),(5,some q5)] 6 (Aw.ret ?_)
 rw [some_some hh]
 exact gives (r':=.agg (bb true::sw 2 v1.Regs::ru28 v1 [.sref 3 [] 0 (List.length x_g.Pages) 3,sw 4 x_g.In,sw 5 x_g.Out])) kr (Ent.list [some 2,some 3,some 4,some 5] rfl rfl (Nat.zero_le _) (rens_1 (ren_agg rz)) (hn nr_eI (hn nr_eI (hn nr_C_50 (hn nr_eI hs_nil)))))
def Lf76_r0:List LOper:=[oX 1 26 0,oo 2 (.fresh 26 [.nil,.nil])]
def Lf76_r1:List LOper:=[oo 5 (.bsl 3 1 0 [(ii 0)] []),oA 6 0 1,ol 7 6,oo 8 (.app 3 1 8 [(ii 0)] (.t 5) (.t 7)),oo 9 (.bld [.nil,.nil] [(0,(1,(.t 8)))]),oo 3 (.fresh 26 [.nil,.nil]),oS 2 3 9]
def Lf76_r2:List LOper:=[oN 4 0]
def Lf76_r3:List LOper:=[om 10 4,oA 11 1 1,ol 12 11,oH 13 12,oB 14 .lss 10 13]
def Lf76_r4:List LOper:=[oA 17 1 3,ol 18 17,oA 19 1 1,ol 20 19,om 21 4,oi 22 17 20 21,oL 23 17 22,oK 24 137 [23],oo 25 (.bsl 53 17 1 zc2 [(0,(17,(.t 24)))])]
def Lf76_r4t:List LOper:=[oo 26 (.app 53 17 176 zc2 (.t 18) (.t 25)),oA 27 1 3,oS 1 27 26]
def Lf76_r6:List LOper:=[om 15 4,ob 16 .add 15 1,om 4 16]
def Lf76_l7:LCode:=(.seq (.seq (.reg false Lf76_r3) (.cond (.t 14) .skip (.exit 0))) (.seq (.block 1 (.regd Lf76_r4 Lf76_r4t)) (.reg false Lf76_r6)))
def Lf76_r8:List LOper:=[oL 28 2 3,oS 2 2 28]
def Lf76:LFun:=⟨29,[(.cell 2 true 2)],(.seq (.reg false Lf76_r0) (.seq (.reg false Lf76_r1) (.seq (.seq (.reg false Lf76_r2) (.block 0 (.loop Lf76_l7))) (.seq (.reg false Lf76_r8) .ret))))⟩
theorem low_spec_l4Copy:lowFun Go.Proofs.Try.prog 76=some Lf76:=by kernel_rfl
noncomputable def F_spec_l4Copy_j1 (x_h:DHost) (s1:(List DGuest)):Option DHost :=
 some (DHost.mk (([]:List Int) ++ x_h.Words) s1)
noncomputable def F_spec_l4Copy_l2 (x_h:DHost) (s2:(List DGuest) × Int):Option (LO ((List DGuest) × Int) (JO (List DGuest) DHost)) :=
 cond (decide (s2.2<(((List.length x_h.Guests):Nat):Int)))
  (grd ((0:Int)≤s2.2∧s2.2<((List.length x_h.Guests:Nat):Int)) (Option.bind (F_spec_l4Guest (DGuest.mk ((List.getD x_h.Guests (Int.toNat s2.2) default).Live) (DCore.mk (((List.getD x_h.Guests (Int.toNat s2.2) default).C).Regs) (((List.getD x_h.Guests (Int.toNat s2.2) default).C).Pc) (((List.getD x_h.Guests (Int.toNat s2.2) default).C).Root) (((List.getD x_h.Guests (Int.toNat s2.2) default).C).Vector) (((List.getD x_h.Guests (Int.toNat s2.2) default).C).Saved) (((List.getD x_h.Guests (Int.toNat s2.2) default).C).SavedUser) (((List.getD x_h.Guests (Int.toNat s2.2) default).C).Cause) (((List.getD x_h.Guests (Int.toNat s2.2) default).C).Bad) (((List.getD x_h.Guests (Int.toNat s2.2) default).C).Timer) (((List.getD x_h.Guests (Int.toNat s2.2) default).C).Waits) (((List.getD x_h.Guests (Int.toNat s2.2) default).C).User) (((List.getD x_h.Guests (Int.toNat s2.2) default).C).On) (((List.getD x_h.Guests (Int.toNat s2.2) default).C).Stopped)) ((List.getD x_h.Guests (Int.toNat s2.2) default).Pages) ((List.getD x_h.Guests (Int.toNat s2.2) default).In) ((List.getD x_h.Guests (Int.toNat s2.2) default).Out))) fun v3 =>
   grd ((List.length s2.1+1)*176≤2 ^ 47∧List.length s2.1+1≤2 ^ 47) (some (.next ((s2.1 ++ ([v3]:List DGuest)),(w64 (s2.2+(1:Int))))))))
  (some (.ret (.go s2.1)))
noncomputable def F_spec_l4Copy (x_h:DHost):Option DHost :=
 grd ((List.length ([]:List Int)+List.length x_h.Words)*8≤2 ^ 47∧List.length ([]:List Int)+List.length x_h.Words≤2 ^ 47) (Option.bind (Option.bind (iter (F_spec_l4Copy_l2 x_h) (([]:List DGuest),(0:Int))) LO.val) fun j1 =>
  JO.run j1 (F_spec_l4Copy_j1 x_h))
theorem spec_l4Copy_fn {x_h:DHost} {R_:DHost} (hh:F_spec_l4Copy x_h=some R_):Fn Try.prog 76 [.agg (B_26 x_h)] (.agg [.own 3 1 (List.length R_.Words) (fl (eI .i64) R_.Words),.own 53 17 (List.length R_.Guests) (fl O_53 R_.Guests)]):=by
 let z2:EH:=(0,some ⟨26,(B_26 x_h)⟩); let z3:=(1,pp 0); let z4:EH:=(1,some ⟨26,[.nil,.nil]⟩); let z5:=(2,pp 1); let z6:=(3,pp 2)
 unfold F_spec_l4Copy at hh
 refine Fn.start low_spec_l4Copy [0] (E:=sp 29 [(0,.agg (B_26 x_h))]) kr (v:=.agg [sw 0 R_.Words,.sref 1 [] 0 (List.length R_.Guests) 17]) (Hr:=[(1,some ⟨53,(fl O_53 R_.Guests)⟩),(0,some ⟨3,(fl (eI .i64) R_.Words)⟩)]) (k:=2) kr (sy [1,2] [0,1] (sp 29 [z3,z5]) [z2,z4] 2 (Aw.sreg [1,2,3] [0,1,3,4] (yu 3 [(5,.sref 2 [] 0 0 1),(6,pp 0),(7,bo (eI .i64) x_h.Words)] [(2,some ⟨3,[]⟩),z2,z4] 3 ?_)))
 obtain ⟨hg42,hh⟩:=grd_some hh
 refine ys (.app 3 1 8 [(ii 0)] (.t 5) (.t 7)) (some 8) (op_app (c:=(eI .i64)) (xs:=([]:List Int)) (ys:=x_h.Words) (r:=2) (k:=0) (π:=[]) eqn len_eI (rpv kr (rp_bor (c:=(eI .i64)) (xs:=x_h.Words) len_eI)) kr kr hg42 ?_)
 let q1:Root:=⟨3,(fl (eI .i64) (([]:List Int) ++ x_h.Words))⟩; let z7:=(3,some q1); let q2:Root:=⟨26,[.sref 3 [] 0 (List.length (([]:List Int) ++ x_h.Words)) 1,.nil]⟩
 refine yt (sp 29 [z3,z5,(3,pp 4)]) [z2,z4,z7,(4,some q2)] 5 ?_
 obtain ⟨j1,hh,hk1⟩:=bind_some hh
 refine Aw.join (S:=(List DGuest)) (fun s1=>sp 29 [(2,pp 0),(3,pp 1)]) (fun s1=>[(0,some ⟨26,[.nil,.nil]⟩),(1,some ⟨26,[.sref 2 [] 0 (List.length (([]:List Int) ++ x_h.Words)) 1,.sref 3 [] 0 (List.length s1) 17]⟩),(2,some ⟨3,(fl (eI .i64) (([]:List Int) ++ x_h.Words))⟩),(3,some ⟨53,(fl O_53 s1)⟩)]) 4 (fun s1=>F_spec_l4Copy_j1 x_h s1=some R_) ?_ ?_
 · intro s1 hh
   unfold F_spec_l4Copy_j1 at hh
   refine sy [2] [0,2,3] (sp 29 [(2,pp 0)]) [(0,some ⟨26,[.sref 2 [] 0 (List.length (([]:List Int) ++ x_h.Words)) 1,.sref 3 [] 0 (List.length s1) 17]⟩),(2,some q1),(3,some ⟨53,(fl O_53 s1)⟩)] 4 (Aw.ret ?_)
   rw [some_some hh]
   exact gives (r':=.agg [.sref 2 [] 0 (List.length (([]:List Int) ++ x_h.Words)) 1,.sref 3 [] 0 (List.length s1) 17]) kr (Ent.list [some 2,some 3] rfl rfl (Nat.zero_le _) (rens_1 (ren_agg rz)) (hn nr_O_53 (hn nr_eI hs_nil)))
 intro Q1 hN1 hR1 hE1
 refine sy [1,2,3,4] [0,1,3,4] (sp 29 [z3,z5,(3,pp 4),(4,ii 0)]) [z2,z4,z7,(4,some q2)] 5 (Aw.block ?_)
 obtain ⟨o2,hi2,hk2⟩:=bind_some hh
 refine Aw.iter (fun (s2:(List DGuest) × Int)=>sp 29 [(1,pp 0),(2,pp 1),(3,pp 2),(4,ii s2.2)]) (fun (s2:(List DGuest) × Int)=>[(0,some ⟨26,(B_26 x_h)⟩),(1,some ⟨26,[.nil,.nil]⟩),(2,some ⟨26,[.sref 3 [] 0 (List.length (([]:List Int) ++ x_h.Words)) 1,.sref 4 [] 0 (List.length s2.1) 17]⟩),(3,some ⟨3,(fl (eI .i64) (([]:List Int) ++ x_h.Words))⟩),(4,some ⟨53,(fl O_53 s2.1)⟩)]) 5 hi2 (el [some 0,some 1,some 4,some 3,none] (rens_sp kr (rp 0 (rp 1 (rp 4 (ri rl_n))))) (hq ⟨26,(B_26 x_h)⟩ (rens_same (nr_B_26 _)) (hq ⟨26,[.nil,.nil]⟩ rz (hq q2 rz (hn nr_eI (hs_no dd rfl rfl hs_nil)))))) ?_
 intro s2 u2 Q2 hh hN2 hX2 hR2
 let z8:=(14,bb (decide (s2.2<(((List.length x_h.Guests):Nat):Int)))); let z9:EV:=(18,.sref 4 [] 0 (List.length s2.1) 17); let z10:=(4,ii s2.2); let z11:EH:=(4,some ⟨53,(fl O_53 s2.1)⟩); let z1:=List.getD x_h.Guests (Int.toNat s2.2) default
 unfold F_spec_l4Copy_l2 at hh
 refine Aw.seq (Aw.sreg [1,2,3,4,14] [0,1,2,3,4] ?_)
 let q3:Root:=⟨26,[.sref 3 [] 0 (List.length (([]:List Int) ++ x_h.Words)) 1,.sref 4 [] 0 (List.length s2.1) 17]⟩
 refine yt (sp 29 [z3,z5,z6,z10,z8]) [z2,z4,(2,some q3),z7,z11] 5 ?_
 rcases cond_sf hh with ⟨hb,hh⟩ | ⟨hb,hh⟩
 · refine cF hb (Aw.exit (then_x (hX2 _ _ _ _ _ (some_some hh) ?_)))
   intro hout
   rw [hout] at hk2
   refine blk_x ?_
   obtain rfl:=some_some hk2
   exact hN1 s2.1 _ _ _ hk1 (el [some 1,some 2,some 3,some 4] (rens_sp kr (rp 1 (rp 2 rl_n))) (hq ⟨26,[.nil,.nil]⟩ rz (hq q3 rz (hn nr_eI (hn nr_O_53 hs_nil)))))
 refine cT hb (Aw.xskip (fun _ _ _ hq=>then_m hq) (Aw.seq (Aw.block (Aw.xregd [1,2,3,4] [0,1,2,3,5,6,7,8,9] [] (fun _ _ _ hq=>blk_m (then_m hq)) kr (dc (cs:=[]) (E':=(sp 29 [z3,z5,z6,z10,z8,(17,.ptr 2 [] 1),z9,(19,.ptr 0 [] 1),(20,bo B_53 x_h.Guests),(21,ii s2.2)])) (H':=[z2,z4,(2,some q3),z7,z11]) (n':=5) (fs':=none) (pre:=(List.take 5 Lf76_r4)) (L':=(List.drop 5 Lf76_r4)) kr (fun K=>by kernel_rfl) .nil ?_)))))
 obtain ⟨hg40,hh⟩:=grd_some hh
 refine ds (.iadr 17 (.t 20) (.t 21)) (some 22) (ydo_q rfl kr (op_iadr (kd:=.i64) (c:=B_53) (xs:=x_h.Guests) len_B_53 dd kr kr hg40 ?_))
 refine ds (.load true 17 (.t 22)) (some 23) (ydo_q rfl kr (op_loadbA (c:=B_53) (xs:=x_h.Guests) (o:=Int.toNat s2.2*17) (i:=(Int.toNat s2.2)) (off:=0) (v:=.agg (B_53 z1)) len_B_53 kr ltn ltn dd kr ?_))
 obtain ⟨v3,hv3,hh⟩:=bind_some hh
 let z12:EH:=(6,some ⟨50,(fl C_50 v3.Pages)⟩); let q4:Root:=⟨3,(fl (eI .i64) v3.Out)⟩; let q5:Root:=⟨3,(fl (eI .i64) v3.In)⟩; let q6:Root:=⟨3,(fl (eI .i64) v3.C.Regs)⟩
 refine ds (.call 137 [(.t 23)]) (some 24) (ydo_n rfl (op_call (r:=.agg (bb v3.Live :: .own 3 1 (List.length v3.C.Regs) (fl (eI .i64) v3.C.Regs)::ru28 v3.C [.own 50 3 (List.length v3.Pages) (fl C_50 v3.Pages),.own 3 1 (List.length v3.In) (fl (eI .i64) v3.In),.own 3 1 (List.length v3.Out) (fl (eI .i64) v3.Out)])) (v:=.agg (bb v3.Live::sw 5 v3.C.Regs::ru28 v3.C [.sref 6 [] 0 (List.length v3.Pages) 3,sw 7 v3.In,sw 8 v3.Out])) (Hr:=[(8,some q4),(7,some q5),z12,(5,some q6)]) (n':=9) (spec_l4Guest_fn hv3) (clz_v (vs:=[.agg (B_53 z1)]) kr (clz_c (clo_agg cz) clz_n)) (by simp only [ru28,AV.noRef,noRefs,Bool.and_self,noRefs_fl nr_eI,noRefs_fl nr_C_50]) (by simp only [ru28,AV.noBor,noBors,Bool.and_self,noBors_fl nb_eI,noBors_fl nb_C_50]) kr ⟨⟨agr_name (n:=5) (n0:=5) (r:=.agg (bb v3.Live :: .own 3 1 (List.length v3.C.Regs) (fl (eI .i64) v3.C.Regs)::ru28 v3.C [.own 50 3 (List.length v3.Pages) (fl C_50 v3.Pages),.own 3 1 (List.length v3.In) (fl (eI .i64) v3.In),.own 3 1 (List.length v3.Out) (fl (eI .i64) v3.Out)])) (v:=.agg (bb v3.Live::sw 5 v3.C.Regs::ru28 v3.C [.sref 6 [] 0 (List.length v3.Pages) 3,sw 7 v3.In,sw 8 v3.Out])) (Hr:=[(8,some q4),(7,some q5),z12,(5,some q6)]) (n':=9) kr dd,Hld.un ?_⟩⟩))
 refine dct (cs:=[]) (E':=(sp 29 [z3,z5,z6,z10,z8,(17,.ptr 2 [] 1),z9,(19,.ptr 0 [] 1),(20,bo B_53 x_h.Guests),(21,ii s2.2),(22,.bptr (fl B_53 x_h.Guests) (Int.toNat s2.2*17)),(23,.agg (B_53 z1)),(24,.agg (bb v3.Live::sw 5 v3.C.Regs::ru28 v3.C [.sref 6 [] 0 (List.length v3.Pages) 3,sw 7 v3.In,sw 8 v3.Out])),(25,.bor 1 (bb v3.Live::sw 5 v3.C.Regs::ru28 v3.C [.sref 6 [] 0 (List.length v3.Pages) 3,sw 7 v3.In,sw 8 v3.Out]))])) (H':=[(8,some q4),(7,some q5),z12,(5,some q6),z2,z4,(2,some q3),z7,z11]) (n':=9) (fun K=>by kernel_rfl) .nil ?_
 obtain ⟨hg41,hh⟩:=grd_some hh
 refine ys (.app 53 17 176 zc2 (.t 18) (.t 25)) (some 26) (op_appR (c:=O_53) (xs:=s2.1) (r:=4) (k:=(List.length s2.1)) (j:=1) (vs:=(bb v3.Live::sw 5 v3.C.Regs::ru28 v3.C [.sref 6 [] 0 (List.length v3.Pages) 3,sw 7 v3.In,sw 8 v3.Out])) eqn len_O_53 kr kr kr hg41 ?_)
 let q7:Root:=⟨26,[.sref 3 [] 0 (List.length (([]:List Int) ++ x_h.Words)) 1,.sref 9 [] 0 (List.length s2.1+1) 17]⟩
 refine yt (sp 29 [z3,z5,z6,z10]) [z2,z4,(2,some q7),z7,(5,some q6),z12,(7,some q5),(8,some q4),(9,some ⟨53,(fl O_53 s2.1 ++ (bb v3.Live::sw 5 v3.C.Regs::ru28 v3.C [.sref 6 [] 0 (List.length v3.Pages) 3,sw 7 v3.In,sw 8 v3.Out]))⟩)] 10 ?_
 let q8:Root:=⟨26,[.sref 3 [] 0 (List.length (([]:List Int) ++ x_h.Words)) 1,.sref 10 [] 0 (List.length (s2.1 ++ ([v3]:List DGuest))) 17]⟩
 refine Aw.ent (Ent.foldA (c:=O_53) (xs:=s2.1) (ys:=([v3]:List DGuest)) (R:=9) (e:=53) (us2:=sp 29 [z3,z5,z6,z10]) (H2:=[z2,z4,(2,some q8),z7]) (L:=[none,some (some 5),none,none,none,none,none,none,none,none,none,none,none,none,some (some 6),some (some 7),some (some 8)]) (ws:=(bb v3.Live :: .own 3 1 (List.length v3.C.Regs) (fl (eI .i64) v3.C.Regs)::ru28 v3.C [.own 50 3 (List.length v3.Pages) (fl C_50 v3.Pages),.own 3 1 (List.length v3.In) (fl (eI .i64) v3.In),.own 3 1 (List.length v3.Out) (fl (eI .i64) v3.Out)])) kr kr (fcs_s (fcs_r kr eqn (fcs_s (fcs_s (fcs_s (fcs_s (fcs_s (fcs_s (fcs_s (fcs_s (fcs_s (fcs_s (fcs_s (fcs_s (fcs_r kr eqn (fcs_r kr eqn (fcs_r kr eqn fcs_n))))))))))))))))) (by rfl) (by rfl) (rds_sp kr (rdl_c (u:=pp 0) kr (.same _) (rdl_c (u:=pp 1) kr (.same _) (rdl_c (u:=pp 2) kr (.same _) (rdl_c (u:=ii s2.2) kr (.same _) rdl_n))))) (hd_c (t:=⟨26,(B_26 x_h)⟩) rfl kr rfl rds_same (hd_c (t:=⟨26,[.nil,.nil]⟩) rfl kr rfl rds_same (hd_c (t:=q7) rfl kr rfl (rds_c (.same _) (rds_c (.sref _ _ _ _ eqn) rds_n)) (hd_c (t:=q1) rfl kr rfl rds_same hd_n))))) (Aw.oreg ?_)
 let q9:Root:=⟨53,(fl O_53 (s2.1 ++ ([v3]:List DGuest)))⟩
 exact ye (sp 29 [z3,z5,z6,(4,ii (w64 (s2.2+(1:Int)))),(15,ii s2.2),(16,ii (w64 (s2.2+(1:Int))))]) [(10,some q9),z2,z4,(2,some q8),z7] 11 (hN2 ((s2.1 ++ ([v3]:List DGuest)),(w64 (s2.2+(1:Int)))) _ _ _ (some_some hh) (el [some 0,some 1,some 2,some 3,some 10] (rens_sp kr (rp 0 (rp 1 (rp 2 (ri rl_n))))) (hq ⟨26,(B_26 x_h)⟩ (rens_same (nr_B_26 _)) (hq ⟨26,[.nil,.nil]⟩ rz (hq q8 rz (hn nr_eI (hn nr_O_53 hs_nil)))))))
end Go.Proofs.Ytlikfpmbcdlnjaa
