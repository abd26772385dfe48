/- Plain functions of the program, and that it hands back what they say. Made by program. -/
import Derived.Test.YtlikfpmbcdlnjaaWT
import Derived.Test.YtlikfpmbcdlnjaaProg
import Derived.Test.YtlikfpmbcdlnjaaWD1
import Derived.Test.YtlikfpmbcdlnjaaWGH1
import Derived.Test.YtlikfpmbcdlnjaaWHF1
import Derived.Test.YtlikfpmbcdlnjaaWHO1
namespace Go.Proofs.Ytlikfpmbcdlnjaa
open Go.RowKit
set_option maxRecDepth 100000
set_option linter.all false
set_option maxHeartbeats 0
def Lf85_r0:List LOper:=[oX 3 26 1,oN 4 0]
def Lf85_r1:List LOper:=[om 6 0,oo 7 (.call 90 [(.t 6),(.c (ii 3))]),om 5 7]
def Lf85_r2:List LOper:=[oA 8 1 3,ol 9 8,oH 10 9,ob 11 .eql 10 3,om 12 11,og 13 (.fadr 1 (.t 3)) 12 true,og 14 (.load false 1 (.t 13)) 12 true,og 15 (.mv (.t 5)) 12 true,og 16 (.iadr 17 (.t 14) (.t 15)) 12 true,og 17 (.fadr 0 (.t 16)) 12 true,og 18 (.load false 1 (.t 17)) 12 true,og 19 (.un .not (.t 18)) 12 true,oP 20 12 19,om 21 20,og 22 (.mv (.t 0)) 21 true,og 23 (.call 90 [(.t 22),(.c (ii 6))]) 21 true,og 24 (.bin .gtr (.t 23) (.c (ii 0))) 21 true,oP 25 21 24]
def Lf85_r3:List LOper:=[oN 5 0]
def Lf85_r4:List LOper:=[om 26 5,om 27 0,oo 28 (.call 90 [(.t 27),(.c (ii 25))]),ob 29 .quo 28 24,oB 30 .sub 26 29,om 4 30]
def Lf85:LFun:=⟨31,[(.tmp 4)],(.seq (.reg false Lf85_r0) (.seq (.reg false Lf85_r1) (.seq (.seq (.reg false Lf85_r2) (.cond (.t 25) (.reg false Lf85_r3) .skip)) (.seq (.reg false Lf85_r4) .ret))))⟩
theorem low_spec_l20At:lowFun Go.Proofs.Try.prog 85=some Lf85:=by kernel_rfl
noncomputable def F_spec_l20At_j2 (x_h:DHost) (s2:(List Int) × Int × Int):Option (Dl20Rd × (List Int) × (List DGuest) × Int) :=
 Option.bind (F___spec_l20Rd__pick (Dl20Rd.mk s2.1 s2.2.1) (25:Int)) fun v3 =>
 some (v3.1,x_h.Words,x_h.Guests,(w64 (s2.2.2 - (w64 (Int.tdiv v3.2 (24:Int))))))
noncomputable def F_spec_l20At (x_r:Dl20Rd) (x_h:DHost):Option (Dl20Rd × (List Int) × (List DGuest) × Int) :=
 Option.bind (F___spec_l20Rd__pick x_r (3:Int)) fun v1 =>
 Option.bind (cond (decide ((((List.length x_h.Guests):Nat):Int)=(3:Int)))
  (grd ((0:Int)≤v1.2∧v1.2<(((List.length x_h.Guests):Nat):Int)) (cond (!((List.getD x_h.Guests (Int.toNat v1.2) default).Live))
   (Option.bind (F___spec_l20Rd__pick v1.1 (6:Int)) fun v4 =>
   cond (decide ((0:Int)<v4.2))
    (some (.go (v4.1.b,v4.1.p,(0:Int))))
    (some (.go (v4.1.b,v4.1.p,v1.2))))
   (some (.go (v1.1.b,v1.1.p,v1.2)))))
  (some (.go (v1.1.b,v1.1.p,v1.2)))) fun j2 =>
  JO.run j2 (F_spec_l20At_j2 x_h)
theorem spec_l20At_fn {x_r:Dl20Rd} {x_h:DHost} {R_:Dl20Rd × (List Int) × (List DGuest) × Int} (hh:F_spec_l20At x_r x_h=some R_):Inl Try.prog 85 [pp 0,.agg [.sref 1 [] 0 (List.length x_h.Words) 1,.sref 2 [] 0 (List.length x_h.Guests) 17]] [(2,some ⟨53,(fl O_53 x_h.Guests)⟩),(1,some ⟨3,(fl (eI .i64) x_h.Words)⟩),(0,some ⟨135,(B_135 x_r)⟩)] 3 (.int .i64 R_.2.2.2) [(0,some ⟨135,[bo (eI .u8) R_.1.b,.int .i64 R_.1.p]⟩),(1,some ⟨3,(fl (eI .i64) R_.2.1)⟩),(2,some ⟨53,(fl O_53 R_.2.2.1)⟩)] 3:=by
 let z2:=(0,pp 0); let z3:EH:=(0,some ⟨135,(B_135 x_r)⟩); let z4:=(10,ii (((List.length x_h.Guests):Nat):Int)); let z5:EV:=(9,.sref 2 [] 0 (List.length x_h.Guests) 17)
 unfold F_spec_l20At at hh
 let q1:Root:=⟨3,(fl (eI .i64) x_h.Words)⟩; let z6:=(1,some q1); let q2:Root:=⟨53,(fl O_53 x_h.Guests)⟩; let z7:=(2,some q2)
 refine Inl.start low_spec_l20At [0,1] [0,1,2] (E:=sp 31 [z2,(1,.agg [sw 1 x_h.Words,.sref 2 [] 0 (List.length x_h.Guests) 17])]) (H1:=[z3,z6,z7]) kr kr (Aw.sreg [0,3] [0,1,2,3] ?_)
 let q3:Root:=⟨26,[sw 1 x_h.Words,.sref 2 [] 0 (List.length x_h.Guests) 17]⟩; let z8:=(3,some q3)
 refine yt (sp 31 [z2,(3,pp 3)]) [z3,z6,z7,z8] 4 (Aw.sreg [0,3,5] [0,1,2,3] (yu 1 [(6,pp 0)] [z3,z6,z7,z8] 4 ?_))
 obtain ⟨v1,hv1,hh⟩:=bind_some hh
 let z9:EH:=(0,some ⟨135,(B_135 v1.1)⟩); let z10:=(5,ii v1.2); let z1:=List.getD x_h.Guests (Int.toNat v1.2) default
 refine ys (.call 90 [(.t 6),(.c (ii 3))]) (some 7) (op_callf (v':=ii v1.2) (Hp':=[z9]) (n':=4) [0] (__spec_l20Rd__pick_fn hv1) (args':=[pp 0,ii 3]) kr rfl rfl rfl rz rfl (hq ⟨135,(B_135 x_r)⟩ (rens_same (nr_B_135 _)) hs_nil) ren_i rfl (hq ⟨135,(B_135 v1.1)⟩ (rens_same (nr_B_135 _)) hs_nil) rfl ?_)
 refine yt (sp 31 [z2,(3,pp 3),z10]) [z9,z6,z7,z8] 4 ?_
 obtain ⟨j2,hh,hk2⟩:=bind_some hh
 refine Aw.join (S:=(List Int) × Int × Int) (fun s2=>sp 31 [(0,pp 0),(5,ii s2.2.2)]) (fun s2=>[(0,some ⟨135,[bo (eI .u8) s2.1,ii s2.2.1]⟩),(1,some ⟨3,(fl (eI .i64) x_h.Words)⟩),(2,some ⟨53,(fl O_53 x_h.Guests)⟩)]) 3 (fun s2=>F_spec_l20At_j2 x_h s2=some R_) ?_ ?_
 · intro s2 hh
   unfold F_spec_l20At_j2 at hh
   refine Aw.sreg [4] [0,1,2] ?_
   let q4:Root:=⟨135,[bo (eI .u8) s2.1,ii s2.2.1]⟩
   refine yj 2  (sp 31 [z2,(5,ii s2.2.2),(26,ii s2.2.2),(27,pp 0)]) [(0,some q4),z6,z7] 3 ?_
   obtain ⟨v3,hv3,hh⟩:=bind_some hh
   refine ys (.call 90 [(.t 27),(.c (ii 25))]) (some 28) (op_callf (v':=ii v3.2) (Hp':=[(0,some ⟨135,(B_135 v3.1)⟩)]) (n':=3) [0] (__spec_l20Rd__pick_fn hv3) (args':=[pp 0,ii 25]) kr rfl rfl rfl rz rfl (hq q4 rz hs_nil) ren_i rfl (hq ⟨135,(B_135 v3.1)⟩ (rens_same (nr_B_135 _)) hs_nil) rfl ?_)
   refine ytc [(24:Int)≠0] (sp 31 [(4,ii (w64 (s2.2.2 - (w64 (Int.tdiv v3.2 (24:Int))))))]) [(0,some ⟨135,(B_135 v3.1)⟩),z6,z7] 3 (.cons dd .nil) (Aw.ret ?_)
   rw [some_some hh]
   exact gives (r':=ii (w64 (s2.2.2 - (w64 (Int.tdiv v3.2 (24:Int)))))) kr (el [some 0,some 1,some 2] (rens_1 ren_i) (hq ⟨135,(B_135 v3.1)⟩ (rens_same (nr_B_135 _)) (hn nr_eI (hn nr_O_53 hs_nil))))
 intro Q2 hN2 hR2 hE2
 refine Aw.sreg [0,5,25] [0,1,2] (yj 5  (sp 31 [z2,(3,pp 3),z10,(8,.ptr 3 [] 1),z5,z4,(11,bb (decide ((((List.length x_h.Guests):Nat):Int)=(3:Int)))),(12,bb (decide ((((List.length x_h.Guests):Nat):Int)=(3:Int))))]) [z9,z6,z7,z8] 4 ?_)
 rcases cond_sf hh with ⟨hb,hh⟩ | ⟨hb,hh⟩
 · refine yb 11 hb (yb 12 hb (yt (sp 31 [z2,z10,(25,bb false)]) [z9,z6,z7] 4 (cF rfl (Aw.skip ?_))))
   obtain rfl:=some_some hh
   exact hN2 (v1.1.b,v1.1.p,v1.2) _ _ _ hk2 (el [some 0,some 1,some 2] (rens_sp kr (rp 0 (ri rl_n))) (hq ⟨135,(B_135 v1.1)⟩ rz (hn nr_eI (hn nr_O_53 hs_nil))))
 refine yb 11 hb (yb 12 hb ?_)
 obtain ⟨hg6,hh⟩:=grd_some hh
 refine yjc 5 [(0:Int)≤v1.2∧v1.2<(((List.length x_h.Guests):Nat):Int)] (sp 31 [z2,(3,pp 3),z10,(8,.ptr 3 [] 1),z5,z4,(11,bb true),(12,bb true),(13,.ptr 3 [] 1),(14,.sref 2 [] 0 (List.length x_h.Guests) 17),(15,ii v1.2),(16,.ptr 2 [] (0+(Int.toNat v1.2)*17)),(17,.ptr 2 [] (0+(Int.toNat v1.2)*17+0))]) [z9,z6,z7,z8] 4 (.cons hg6 .nil) (yg (.load false 1 (.t 17)) (some 18) 12 true (op_load (c:=O_53) (xs:=x_h.Guests) (e:=53) (r:=2) (π:=[]) (o:=0+(Int.toNat v1.2)*17+0) (i:=(Int.toNat v1.2)) (off:=0) (v:=bb (z1.Live)) len_O_53 kr kr ltn ltn dd kr ?_))
 refine yu 3 [(18,bb (z1.Live)),(19,bb (!(z1.Live))),(20,bb (!(z1.Live))),(21,bb (!(z1.Live)))] [z9,z6,z7,z8] 4 ?_
 rcases cond_sf hh with ⟨hb,hh⟩ | ⟨hb,hh⟩
 · refine yb 19 hb (yb 20 hb (yb 21 hb (yt (sp 31 [z2,z10,(25,bb false)]) [z9,z6,z7] 4 (cF rfl (Aw.skip ?_)))))
   obtain rfl:=some_some hh
   exact hN2 (v1.1.b,v1.1.p,v1.2) _ _ _ hk2 (el [some 0,some 1,some 2] (rens_sp kr (rp 0 (ri rl_n))) (hq ⟨135,(B_135 v1.1)⟩ rz (hn nr_eI (hn nr_O_53 hs_nil))))
 refine yb 19 hb (yb 20 hb (yb 21 hb (yu 1 [(19,bb true),(20,bb true),(21,bb true),(22,pp 0)] [z9,z6,z7,z8] 4 ?_)))
 obtain ⟨v4,hv4,hh⟩:=bind_some hh
 let z11:EH:=(0,some ⟨135,(B_135 v4.1)⟩); let z12:=(25,bb (decide ((0:Int)<v4.2)))
 refine yg (.call 90 [(.t 22),(.c (ii 6))]) (some 23) 21 true (op_callf (v':=ii v4.2) (Hp':=[z11]) (n':=4) [0] (__spec_l20Rd__pick_fn hv4) (args':=[pp 0,ii 6]) kr rfl rfl rfl rz rfl (hq ⟨135,(B_135 v1.1)⟩ (rens_same (nr_B_135 _)) hs_nil) ren_i rfl (hq ⟨135,(B_135 v4.1)⟩ (rens_same (nr_B_135 _)) hs_nil) rfl ?_)
 refine yt (sp 31 [z2,z10,z12]) [z11,z6,z7] 4 ?_
 rcases cond_sf hh with ⟨hb,hh⟩ | ⟨hb,hh⟩
 · refine cF hb (Aw.skip ?_)
   obtain rfl:=some_some hh
   exact hN2 (v4.1.b,v4.1.p,v1.2) _ _ _ hk2 (el [some 0,some 1,some 2] (rens_sp kr (rp 0 (ri rl_n))) (hq ⟨135,(B_135 v4.1)⟩ rz (hn nr_eI (hn nr_O_53 hs_nil))))
 refine cT hb (Aw.oreg (ye (sp 31 [z2,(5,ii 0),z12]) [z11,z6,z7] 4 ?_))
 obtain rfl:=some_some hh
 exact hN2 (v4.1.b,v4.1.p,(0:Int)) _ _ _ hk2 (el [some 0,some 1,some 2] (rens_sp kr (rp 0 (ri rl_n))) (hq ⟨135,(B_135 v4.1)⟩ rz (hn nr_eI (hn nr_O_53 hs_nil))))
def Lf26_r0:List LOper:=[oo 2 (.fresh 26 [.nil,.nil]),oN 3 0]
def Lf26_r1:List LOper:=[om 6 0,oK 7 66 [6],om 4 7]
def Lf26_r2:List LOper:=[om 8 4,oo 9 (.call 67 [(.t 8),(.c (ii 20))]),oo 5 (.fresh 26 [.nil,.nil]),oS 2 5 9]
def Lf26_r3:List LOper:=[oL 10 2 5,om 11 4,oL 12 2 5,oK 13 85 [11,12]]
def Lf26_r3t:List LOper:=[oS 2 2 10,om 3 13]
def Lf26:LFun:=⟨14,[(.cell 2 true 2),(.tmp 3)],(.seq (.reg false Lf26_r0) (.seq (.reg false Lf26_r1) (.seq (.reg false Lf26_r2) (.seq (.regd Lf26_r3 Lf26_r3t) .ret))))⟩
theorem low_spec_DrawShadowOf:lowFun Go.Proofs.Try.prog 26=some Lf26:=by kernel_rfl
noncomputable def F_spec_DrawShadowOf (x_code:List Int):Option (DHost × Int) :=
 Option.bind (F_spec_l20Open x_code) fun v1 =>
 Option.bind (F_spec_l20Host v1 (20:Int)) fun v2 =>
 Option.bind (F_spec_l20At v2.1 v2.2) fun v3 =>
 grd (List.length v3.2.1=(List.length v2.2.Words)) (grd (List.length v3.2.2.1=(List.length v2.2.Guests)) (some ((DHost.mk v3.2.1 v3.2.2.1),v3.2.2.2)))
theorem spec_DrawShadowOf_fn {x_code:List Int} {R_:DHost × Int} (hh:F_spec_DrawShadowOf x_code=some R_):Fn Try.prog 26 [bo (eI .u8) x_code] (.tup [.agg [.own 3 1 (List.length R_.1.Words) (fl (eI .i64) R_.1.Words),.own 53 17 (List.length R_.1.Guests) (fl O_53 R_.1.Guests)],.int .i64 R_.2]):=by
 let z1:EH:=(0,some ⟨26,[.nil,.nil]⟩); let z2:=(2,pp 0)
 unfold F_spec_DrawShadowOf at hh
 refine Fn.start low_spec_DrawShadowOf [0] (E:=sp 14 [(0,bo (eI .u8) x_code)]) kr (v:=.tup [.agg [sw 0 R_.1.Words,.sref 1 [] 0 (List.length R_.1.Guests) 17],ii R_.2]) (Hr:=[(1,some ⟨53,(fl O_53 R_.1.Guests)⟩),(0,some ⟨3,(fl (eI .i64) R_.1.Words)⟩)]) (k:=2) kr (sy [0,2] [0] (sp 14 [(0,bo (eI .u8) x_code),z2]) [z1] 1 (Aw.sreg [2,4] [0,1] (yu 1 [(6,bo (eI .u8) x_code)] [z1] 1 ?_)))
 obtain ⟨v1,hv1,hh⟩:=bind_some hh
 let z3:EH:=(1,some ⟨135,(B_135 v1)⟩)
 refine ys (.call 66 [(.t 6)]) (some 7) (op_callf (v':=pp 1) (Hp':=[z3]) (n':=2) [] (spec_l20Open_fn hv1) (args':=[bo (eI .u8) x_code]) kr rfl rfl rfl rz rfl hs_nil (ren_p dd rfl) rfl (hq ⟨135,(B_135 v1)⟩ (rens_same (nr_B_135 _)) hs_nil) rfl ?_)
 refine yt (sp 14 [z2,(4,pp 1)]) [z1,z3] 2 (Aw.sreg [2,4,5] [0,1,2,3,4] (yu 1 [(8,pp 1)] [z1,z3] 2 ?_))
 obtain ⟨v2,hv2,hh⟩:=bind_some hh
 let z4:EH:=(1,some ⟨135,(B_135 v2.1)⟩); let z5:EV:=(10,.agg [sw 2 v2.2.Words,.sref 3 [] 0 (List.length v2.2.Guests) 17]); let z6:EV:=(12,.agg [sw 2 v2.2.Words,.sref 3 [] 0 (List.length v2.2.Guests) 17]); let q1:Root:=⟨53,(fl O_53 v2.2.Guests)⟩; let q2:Root:=⟨3,(fl (eI .i64) v2.2.Words)⟩
 refine ys (.call 67 [(.t 8),(.c (ii 20))]) (some 9) (op_callf (v':=.agg [sw 2 v2.2.Words,.sref 3 [] 0 (List.length v2.2.Guests) 17]) (Hp':=[(3,some q1),(2,some q2),z4]) (n':=4) [1] (spec_l20Host_fn hv2) (args':=[pp 1,ii 20]) kr rfl rfl rfl rz rfl (hq ⟨135,(B_135 v1)⟩ (rens_same (nr_B_135 _)) hs_nil) (ren_agg rz) rfl (hn nr_O_53 (hn nr_eI (hq ⟨135,(B_135 v2.1)⟩ (rens_same (nr_B_135 _)) hs_nil))) rfl ?_)
 let q3:Root:=⟨26,[sw 2 v2.2.Words,.sref 3 [] 0 (List.length v2.2.Guests) 17]⟩
 refine yt (sp 14 [z2,(4,pp 1),(5,pp 4)]) [z1,z4,(2,some q2),(3,some q1),(4,some q3)] 5 (Aw.sregd [2,3] [0,2,3] [1,2,3] kr (dc (cs:=[]) (E':=(sp 14 [z2,(4,pp 1),(5,pp 4),z5,(11,pp 1),z6])) (H':=[z1,z4,(2,some q2),(3,some q1),(4,some q3)]) (n':=5) (fs':=none) (pre:=(List.take 3 Lf26_r3)) (L':=(List.drop 3 Lf26_r3)) kr (fun K=>by kernel_rfl) .nil ?_))
 obtain ⟨v3,hv3,hh⟩:=bind_some hh
 let z7:EH:=(3,some ⟨53,(fl O_53 v3.2.2.1)⟩)
 obtain ⟨hg3,hh⟩:=grd_some hh
 obtain ⟨hg4,hh⟩:=grd_some hh
 let q4:Root:=⟨3,(fl (eI .i64) v3.2.1)⟩
 refine ds (.call 85 [(.t 11),(.t 12)]) (some 13) (ydo_n rfl (op_callf (v':=ii v3.2.2.2) (Hp':=[(1,some ⟨135,(B_135 v3.1)⟩),(2,some q4),z7]) (n':=5) [1,2,3] (spec_l20At_fn hv3) (args':=[pp 1,.agg [sw 2 v2.2.Words,.sref 3 [] 0 (List.length v2.2.Guests) 17]]) kr rfl rfl rfl rz rfl (hn nr_O_53 (hn nr_eI (hq ⟨135,(B_135 v2.1)⟩ (rens_same (nr_B_135 _)) hs_nil))) ren_i rfl (hq ⟨135,(B_135 v3.1)⟩ (rens_same (nr_B_135 _)) (hn nr_eI (hn nr_O_53 hs_nil))) rfl ⟨⟨agr_callf rfl rfl,Hld.un ?_⟩⟩))
 refine dct (cs:=[]) (E':=(sp 14 [z2,(4,pp 1),(5,pp 4),z5,(11,pp 1),z6,(13,ii v3.2.2.2)])) (H':=[(1,some ⟨135,(B_135 v3.1)⟩),(2,some q4),z7,(1,none),(2,none),(3,none),z1,z4,(2,some q2),(3,some q1),(4,some q3)]) (n':=5) (fun K=>by kernel_rfl) .nil (yt (sp 14 [z2,(3,ii v3.2.2.2)]) [(0,some q3),(2,some q4),z7] 5 (Aw.ret ?_))
 rw [some_some hh]
 exact gives (r':=.tup [.agg [sw 2 v2.2.Words,.sref 3 [] 0 (List.length v2.2.Guests) 17],ii v3.2.2.2]) kr (Ent.list [some 2,some 3] rfl rfl (Nat.zero_le _) (rens_1 (ren_tup rz)) (hn nr_O_53 (hn nr_eI hs_nil)))
def Lf29_r0:List LOper:=[oo 2 (.fresh 26 [.nil,.nil]),oN 3 0,oN 4 0,oF 5,oF 6]
def Lf29_r1:List LOper:=[om 9 0,oK 10 66 [9],om 7 10]
def Lf29_r2:List LOper:=[om 11 7,oo 12 (.call 67 [(.t 11),(.c (ii 20))]),oo 8 (.fresh 26 [.nil,.nil]),oS 2 8 12]
def Lf29_r3:List LOper:=[oL 13 2 8,om 14 7,oL 15 2 8,oK 16 85 [14,15],om 17 7,oo 18 (.call 90 [(.t 17),(.c (ii 64))]),om 19 7,oo 20 (.call 90 [(.t 19),(.c (ii 25))]),ob 21 .quo 20 24,ob 22 .mul 21 5,oB 23 .add 18 22,om 24 7,oo 25 (.call 90 [(.t 24),(.c (ii 2))]),ob 26 .eql 25 0,om 27 7,oo 28 (.call 90 [(.t 27),(.c (ii 2))]),ob 29 .eql 28 0,oS 2 2 13,om 3 16,om 4 23,om 5 26]
def Lf29_r3t:List LOper:=[om 6 29]
def Lf29:LFun:=⟨30,[(.cell 2 true 2),(.tmp 3),(.tmp 4),(.tmp 5),(.tmp 6)],(.seq (.reg false Lf29_r0) (.seq (.reg false Lf29_r1) (.seq (.reg false Lf29_r2) (.seq (.regd Lf29_r3 Lf29_r3t) .ret))))⟩
theorem low_spec_DrawShadowWalk:lowFun Go.Proofs.Try.prog 29=some Lf29:=by kernel_rfl
noncomputable def F_spec_DrawShadowWalk (x_code:List Int):Option (DHost × Int × Int × Bool × Bool) :=
 Option.bind (F_spec_l20Open x_code) fun v1 =>
 Option.bind (F_spec_l20Host v1 (20:Int)) fun v2 =>
 Option.bind (F_spec_l20At v2.1 v2.2) fun v3 =>
 grd (List.length v3.2.1=(List.length v2.2.Words)) (grd (List.length v3.2.2.1=(List.length v2.2.Guests)) (Option.bind (F___spec_l20Rd__pick v3.1 (64:Int)) fun v4 =>
  Option.bind (F___spec_l20Rd__pick v4.1 (25:Int)) fun v5 =>
  Option.bind (F___spec_l20Rd__pick v5.1 (2:Int)) fun v6 =>
  Option.bind (F___spec_l20Rd__pick v6.1 (2:Int)) fun v7 =>
  some ((DHost.mk v3.2.1 v3.2.2.1),v3.2.2.2,(w64 (v4.2+(w64 ((w64 (Int.tdiv v5.2 (24:Int)))*(5:Int))))),(decide (v6.2=(0:Int))),(decide (v7.2=(0:Int))))))
theorem spec_DrawShadowWalk_fn {x_code:List Int} {R_:DHost × Int × Int × Bool × Bool} (hh:F_spec_DrawShadowWalk x_code=some R_):Fn Try.prog 29 [bo (eI .u8) x_code] (.tup [.agg [.own 3 1 (List.length R_.1.Words) (fl (eI .i64) R_.1.Words),.own 53 17 (List.length R_.1.Guests) (fl O_53 R_.1.Guests)],.int .i64 R_.2.1,.int .i64 R_.2.2.1,.bool R_.2.2.2.1,.bool R_.2.2.2.2]):=by
 let z1:EH:=(0,some ⟨26,[.nil,.nil]⟩); let z2:EH:=(1,none); let z3:=(14,pp 1); let z4:=(17,pp 1); let z5:=(19,pp 1); let z6:EH:=(2,none); let z7:=(2,pp 0); let z8:EH:=(3,none); let z9:=(7,pp 1); let z10:=(8,pp 4)
 unfold F_spec_DrawShadowWalk at hh
 refine Fn.start low_spec_DrawShadowWalk [0] (E:=sp 30 [(0,bo (eI .u8) x_code)]) kr (v:=.tup [.agg [sw 0 R_.1.Words,.sref 1 [] 0 (List.length R_.1.Guests) 17],ii R_.2.1,ii R_.2.2.1,bb R_.2.2.2.1,bb R_.2.2.2.2]) (Hr:=[(1,some ⟨53,(fl O_53 R_.1.Guests)⟩),(0,some ⟨3,(fl (eI .i64) R_.1.Words)⟩)]) (k:=2) kr (sy [0,2] [0] (sp 30 [(0,bo (eI .u8) x_code),z7]) [z1] 1 (Aw.sreg [2,7] [0,1] (yu 1 [(9,bo (eI .u8) x_code)] [z1] 1 ?_)))
 obtain ⟨v1,hv1,hh⟩:=bind_some hh
 let z11:EH:=(1,some ⟨135,(B_135 v1)⟩)
 refine ys (.call 66 [(.t 9)]) (some 10) (op_callf (v':=pp 1) (Hp':=[z11]) (n':=2) [] (spec_l20Open_fn hv1) (args':=[bo (eI .u8) x_code]) kr rfl rfl rfl rz rfl hs_nil (ren_p dd rfl) rfl (hq ⟨135,(B_135 v1)⟩ (rens_same (nr_B_135 _)) hs_nil) rfl ?_)
 refine yt (sp 30 [z7,z9]) [z1,z11] 2 (Aw.sreg [2,7,8] [0,1,2,3,4] (yu 1 [(11,pp 1)] [z1,z11] 2 ?_))
 obtain ⟨v2,hv2,hh⟩:=bind_some hh
 let z12:EH:=(1,some ⟨135,(B_135 v2.1)⟩); let z13:EV:=(13,.agg [sw 2 v2.2.Words,.sref 3 [] 0 (List.length v2.2.Guests) 17]); let z14:EV:=(15,.agg [sw 2 v2.2.Words,.sref 3 [] 0 (List.length v2.2.Guests) 17]); let q1:Root:=⟨53,(fl O_53 v2.2.Guests)⟩; let z15:=(3,some q1); let q2:Root:=⟨3,(fl (eI .i64) v2.2.Words)⟩; let z16:=(2,some q2)
 refine ys (.call 67 [(.t 11),(.c (ii 20))]) (some 12) (op_callf (v':=.agg [sw 2 v2.2.Words,.sref 3 [] 0 (List.length v2.2.Guests) 17]) (Hp':=[z15,z16,z12]) (n':=4) [1] (spec_l20Host_fn hv2) (args':=[pp 1,ii 20]) kr rfl rfl rfl rz rfl (hq ⟨135,(B_135 v1)⟩ (rens_same (nr_B_135 _)) hs_nil) (ren_agg rz) rfl (hn nr_O_53 (hn nr_eI (hq ⟨135,(B_135 v2.1)⟩ (rens_same (nr_B_135 _)) hs_nil))) rfl ?_)
 let q3:Root:=⟨26,[sw 2 v2.2.Words,.sref 3 [] 0 (List.length v2.2.Guests) 17]⟩; let z17:=(4,some q3)
 refine yt (sp 30 [z7,z9,z10]) [z1,z12,z16,z15,z17] 5 (Aw.sregd [2,3,4,5,6] [0,2,3] [0,1,2,3] kr (dc (cs:=[]) (E':=(sp 30 [z7,z9,z10,z13,z3,z14])) (H':=[z1,z12,z16,z15,z17]) (n':=5) (fs':=none) (pre:=(List.take 3 Lf29_r3)) (L':=(List.drop 3 Lf29_r3)) kr (fun K=>by kernel_rfl) .nil ?_))
 obtain ⟨v3,hv3,hh⟩:=bind_some hh
 let z18:EH:=(1,some ⟨135,(B_135 v3.1)⟩); let z19:=(16,ii v3.2.2.2); let z20:EH:=(3,some ⟨53,(fl O_53 v3.2.2.1)⟩)
 obtain ⟨hg3,hh⟩:=grd_some hh
 obtain ⟨hg4,hh⟩:=grd_some hh
 let q4:Root:=⟨3,(fl (eI .i64) v3.2.1)⟩; let z21:=(2,some q4)
 refine ds (.call 85 [(.t 14),(.t 15)]) (some 16) (ydo_n rfl (op_callf (v':=ii v3.2.2.2) (Hp':=[z18,z21,z20]) (n':=5) [1,2,3] (spec_l20At_fn hv3) (args':=[pp 1,.agg [sw 2 v2.2.Words,.sref 3 [] 0 (List.length v2.2.Guests) 17]]) kr rfl rfl rfl rz rfl (hn nr_O_53 (hn nr_eI (hq ⟨135,(B_135 v2.1)⟩ (rens_same (nr_B_135 _)) hs_nil))) ren_i rfl (hq ⟨135,(B_135 v3.1)⟩ (rens_same (nr_B_135 _)) (hn nr_eI (hn nr_O_53 hs_nil))) rfl ⟨⟨agr_callf rfl rfl,Hld.un ?_⟩⟩))
 refine dc (cs:=[]) (E':=(sp 30 [z7,z9,z10,z13,z3,z14,z19,z4])) (H':=[z18,z21,z20,z2,z6,z8,z1,z12,z16,z15,z17]) (n':=5) (fs':=none) (pre:=(List.take 1 (List.drop 4 Lf29_r3))) (L':=(List.drop 5 Lf29_r3)) kr (fun K=>by kernel_rfl) .nil ?_
 obtain ⟨v4,hv4,hh⟩:=bind_some hh
 let z22:EH:=(1,some ⟨135,(B_135 v4.1)⟩); let z23:=(18,ii v4.2)
 refine ds (.call 90 [(.t 17),(.c (ii 64))]) (some 18) (ydo_n rfl (op_callf (v':=ii v4.2) (Hp':=[z22]) (n':=5) [1] (__spec_l20Rd__pick_fn hv4) (args':=[pp 1,ii 64]) kr rfl rfl rfl rz rfl (hq ⟨135,(B_135 v3.1)⟩ (rens_same (nr_B_135 _)) hs_nil) ren_i rfl (hq ⟨135,(B_135 v4.1)⟩ (rens_same (nr_B_135 _)) hs_nil) rfl ⟨⟨agr_callf rfl rfl,Hld.un ?_⟩⟩))
 refine dc (cs:=[]) (E':=(sp 30 [z7,z9,z10,z13,z3,z14,z19,z4,z23,z5])) (H':=[z22,z2,z18,z21,z20,z2,z6,z8,z1,z12,z16,z15,z17]) (n':=5) (fs':=none) (pre:=(List.take 1 (List.drop 6 Lf29_r3))) (L':=(List.drop 7 Lf29_r3)) kr (fun K=>by kernel_rfl) .nil ?_
 obtain ⟨v5,hv5,hh⟩:=bind_some hh
 let z24:EH:=(1,some ⟨135,(B_135 v5.1)⟩); let z25:=(20,ii v5.2); let z26:=(21,ii (w64 (Int.tdiv v5.2 (24:Int)))); let z27:=(22,ii (w64 ((w64 (Int.tdiv v5.2 (24:Int)))*(5:Int)))); let z28:=(23,ii (w64 (v4.2+(w64 ((w64 (Int.tdiv v5.2 (24:Int)))*(5:Int)))))); let z29:=(4,ii (w64 (v4.2+(w64 ((w64 (Int.tdiv v5.2 (24:Int)))*(5:Int))))))
 refine ds (.call 90 [(.t 19),(.c (ii 25))]) (some 20) (ydo_n rfl (op_callf (v':=ii v5.2) (Hp':=[z24]) (n':=5) [1] (__spec_l20Rd__pick_fn hv5) (args':=[pp 1,ii 25]) kr rfl rfl rfl rz rfl (hq ⟨135,(B_135 v4.1)⟩ (rens_same (nr_B_135 _)) hs_nil) ren_i rfl (hq ⟨135,(B_135 v5.1)⟩ (rens_same (nr_B_135 _)) hs_nil) rfl ⟨⟨agr_callf rfl rfl,Hld.un ?_⟩⟩))
 refine dc (cs:=[(24:Int)≠0]) (E':=(sp 30 [z7,z9,z10,z13,z3,z14,z19,z4,z23,z5,z25,z26,z27,z28,(24,pp 1)])) (H':=[z24,z2,z22,z2,z18,z21,z20,z2,z6,z8,z1,z12,z16,z15,z17]) (n':=5) (fs':=none) (pre:=(List.take 4 (List.drop 8 Lf29_r3))) (L':=(List.drop 12 Lf29_r3)) kr (fun K=>by kernel_rfl) (.cons dd .nil) ?_
 obtain ⟨v6,hv6,hh⟩:=bind_some hh
 let z30:EH:=(1,some ⟨135,(B_135 v6.1)⟩); let z31:=(26,bb (decide (v6.2=(0:Int)))); let z32:=(5,bb (decide (v6.2=(0:Int))))
 refine ds (.call 90 [(.t 24),(.c (ii 2))]) (some 25) (ydo_n rfl (op_callf (v':=ii v6.2) (Hp':=[z30]) (n':=5) [1] (__spec_l20Rd__pick_fn hv6) (args':=[pp 1,ii 2]) kr rfl rfl rfl rz rfl (hq ⟨135,(B_135 v5.1)⟩ (rens_same (nr_B_135 _)) hs_nil) ren_i rfl (hq ⟨135,(B_135 v6.1)⟩ (rens_same (nr_B_135 _)) hs_nil) rfl ⟨⟨agr_callf rfl rfl,Hld.un ?_⟩⟩))
 refine dc (cs:=[]) (E':=(sp 30 [z7,z9,z10,z13,z3,z14,z19,z4,z23,z5,z25,z26,z27,z28,(24,pp 1),(25,ii v6.2),z31,(27,pp 1)])) (H':=[z30,z2,z24,z2,z22,z2,z18,z21,z20,z2,z6,z8,z1,z12,z16,z15,z17]) (n':=5) (fs':=none) (pre:=(List.take 2 (List.drop 13 Lf29_r3))) (L':=(List.drop 15 Lf29_r3)) kr (fun K=>by kernel_rfl) .nil ?_
 obtain ⟨v7,hv7,hh⟩:=bind_some hh
 let z33:EH:=(1,some ⟨135,(B_135 v7.1)⟩); let z34:=(29,bb (decide (v7.2=(0:Int))))
 refine ds (.call 90 [(.t 27),(.c (ii 2))]) (some 28) (ydo_n rfl (op_callf (v':=ii v7.2) (Hp':=[z33]) (n':=5) [1] (__spec_l20Rd__pick_fn hv7) (args':=[pp 1,ii 2]) kr rfl rfl rfl rz rfl (hq ⟨135,(B_135 v6.1)⟩ (rens_same (nr_B_135 _)) hs_nil) ren_i rfl (hq ⟨135,(B_135 v7.1)⟩ (rens_same (nr_B_135 _)) hs_nil) rfl ⟨⟨agr_callf rfl rfl,Hld.un ?_⟩⟩))
 refine dc (cs:=[]) (E':=(sp 30 [z7,z9,z10,z13,z3,z14,z19,z4,z23,z5,z25,z26,z27,z28,(24,pp 1),(25,ii v6.2),z31,(27,pp 1),(28,ii v7.2),z34])) (H':=[z33,z2,z30,z2,z24,z2,z22,z2,z18,z21,z20,z2,z6,z8,z1,z12,z16,z15,z17]) (n':=5) (fs':=none) (pre:=(List.take 1 (List.drop 16 Lf29_r3))) (L':=(List.drop 17 Lf29_r3)) kr (fun K=>by kernel_rfl) .nil (ds (.store 2 (.t 2) (.t 13)) none (ydo_n rfl (op_st (v:=.und) (H':=[(0,some q3),z33,z2,z30,z2,z24,z2,z22,z2,z18,z21,z20,z2,z6,z8,z1,z12,z16,z15,z17]) (n':=5) (fun K=>by kernel_rfl) ⟨⟨agr_put dd,Hld.un ?_⟩⟩)))
 refine dct (cs:=[]) (E':=(sp 30 [z7,(3,ii v3.2.2.2),z29,z32,z9,z10,z13,z3,z14,z19,z4,z23,z5,z25,z26,z27,z28,(24,pp 1),(25,ii v6.2),z31,(27,pp 1),(28,ii v7.2),z34])) (H':=[(0,some q3),z33,z2,z30,z2,z24,z2,z22,z2,z18,z21,z20,z2,z6,z8,z1,z12,z16,z15,z17]) (n':=5) (fun K=>by kernel_rfl) .nil (yt (sp 30 [z7,(3,ii v3.2.2.2),z29,z32,(6,bb (decide (v7.2=(0:Int))))]) [(0,some q3),z21,z20] 5 (Aw.ret ?_))
 rw [some_some hh]
 exact gives (r':=.tup [.agg [sw 2 v2.2.Words,.sref 3 [] 0 (List.length v2.2.Guests) 17],ii v3.2.2.2,ii (w64 (v4.2+(w64 ((w64 (Int.tdiv v5.2 (24:Int)))*(5:Int))))),bb (decide (v6.2=(0:Int))),bb (decide (v7.2=(0:Int)))]) kr (Ent.list [some 2,some 3] rfl rfl (Nat.zero_le _) (rens_1 (ren_tup rz)) (hn nr_O_53 (hn nr_eI hs_nil)))
end Go.Proofs.Ytlikfpmbcdlnjaa
