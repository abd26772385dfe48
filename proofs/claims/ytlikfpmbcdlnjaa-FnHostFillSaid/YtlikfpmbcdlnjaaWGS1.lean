/- Plain functions of the program, and that it hands back what they say. Made by program. -/
import Derived.Test.YtlikfpmbcdlnjaaWT
import Derived.Test.YtlikfpmbcdlnjaaProg
import Derived.Test.YtlikfpmbcdlnjaaWD1
import Derived.Test.YtlikfpmbcdlnjaaWGH1
import Derived.Test.YtlikfpmbcdlnjaaWHF1
import Derived.Test.YtlikfpmbcdlnjaaWHO1
namespace Go.Proofs.Ytlikfpmbcdlnjaa
open Go.RowKit
set_option maxRecDepth 100000
set_option linter.all false
set_option maxHeartbeats 0
def Lf85_r0:List LOper:=[oX 3 26 1,oN 4 0]
def Lf85_r1:List LOper:=[om 6 0,oo 7 (.call 90 [(.t 6),(.c (ii 3))]),om 5 7]
def Lf85_r2:List LOper:=[oA 8 1 3,ol 9 8,oH 10 9,ob 11 .eql 10 3,om 12 11,og 13 (.fadr 1 (.t 3)) 12 true,og 14 (.load false 1 (.t 13)) 12 true,og 15 (.mv (.t 5)) 12 true,og 16 (.iadr 17 (.t 14) (.t 15)) 12 true,og 17 (.fadr 0 (.t 16)) 12 true,og 18 (.load false 1 (.t 17)) 12 true,og 19 (.un .not (.t 18)) 12 true,oP 20 12 19,om 21 20,og 22 (.mv (.t 0)) 21 true,og 23 (.call 90 [(.t 22),(.c (ii 6))]) 21 true,og 24 (.bin .gtr (.t 23) (.c (ii 0))) 21 true,oP 25 21 24]
def Lf85_r3:List LOper:=[oN 5 0]
def Lf85_r4:List LOper:=[om 26 5,om 27 0,oo 28 (.call 90 [(.t 27),(.c (ii 25))]),ob 29 .quo 28 24,oB 30 .sub 26 29,om 4 30]
def Lf85:LFun:=⟨31,[(.tmp 4)],(.seq (.reg false Lf85_r0) (.seq (.reg false Lf85_r1) (.seq (.seq (.reg false Lf85_r2) (.cond (.t 25) (.reg false Lf85_r3) .skip)) (.seq (.reg false Lf85_r4) .ret))))⟩
theorem low_spec_l20At:lowFun Go.Proofs.Try.prog 85=some Lf85:=by kernel_rfl
noncomputable def F_spec_l20At_j2 (x_h:DHost) (s2:(List Int) × Int × Int):Option (Dl20Rd × (List Int) × (List DGuest) × Int) :=
 Option.bind (F___spec_l20Rd__pick (Dl20Rd.mk s2.1 s2.2.1) (25:Int)) fun v3 =>
 some (v3.1,x_h.Words,x_h.Guests,(w64 (s2.2.2 - (w64 (Int.tdiv v3.2 (24:Int))))))
noncomputable def F_spec_l20At (x_r:Dl20Rd) (x_h:DHost):Option (Dl20Rd × (List Int) × (List DGuest) × Int) :=
 Option.bind (F___spec_l20Rd__pick x_r (3:Int)) fun v1 =>
 Option.bind (cond (decide ((((List.length x_h.Guests):Nat):Int)=(3:Int)))
  (grd ((0:Int)≤v1.2∧v1.2<(((List.length x_h.Guests):Nat):Int)) (cond (!((List.getD x_h.Guests (Int.toNat v1.2) default).Live))
   (Option.bind (F___spec_l20Rd__pick v1.1 (6:Int)) fun v4 =>
   cond (decide ((0:Int)<v4.2))
    (some (.go (v4.1.b,v4.1.p,(0:Int))))
    (some (.go (v4.1.b,v4.1.p,v1.2))))
   (some (.go (v1.1.b,v1.1.p,v1.2)))))
  (some (.go (v1.1.b,v1.1.p,v1.2)))) fun j2 =>
  JO.run j2 (F_spec_l20At_j2 x_h)
theorem spec_l20At_fn {x_r:Dl20Rd} {x_h:DHost} {R_:Dl20Rd × (List Int) × (List DGuest) × Int} (hh:F_spec_l20At x_r x_h=some R_):Inl Try.prog 85 [pp 0,.agg [.sref 1 [] 0 (List.length x_h.Words) 1,.sref 2 [] 0 (List.length x_h.Guests) 17]] [(2,some ⟨53,(fl O_53 x_h.Guests)⟩),(1,some ⟨3,(fl (eI .i64) x_h.Words)⟩),(0,some ⟨135,(B_135 x_r)⟩)] 3 (.int .i64 R_.2.2.2) [(0,some ⟨135,[bo (eI .u8) R_.1.b,.int .i64 R_.1.p]⟩),(1,some ⟨3,(fl (eI .i64) R_.2.1)⟩),(2,some ⟨53,(fl O_53 R_.2.2.1)⟩)] 3:=by
 let z2:=(0,pp 0); let z3:EH:=(0,some ⟨135,(B_135 x_r)⟩); let z4:=(10,ii (((List.length x_h.Guests):Nat):Int)); let z5:EV:=(9,.sref 2 [] 0 (List.length x_h.Guests) 17)
 unfold F_spec_l20At at hh
 let q1:Root:=⟨3,(fl (eI .i64) x_h.Words)⟩; let z6:=(1,some q1); let q2:Root:=⟨53,(fl O_53 x_h.Guests)⟩; let z7:=(2,some q2)
 refine Inl.start low_spec_l20At [0,1] [0,1,2] (E:=sp 31 [z2,(1,.agg [sw 1 x_h.Words,.sref 2 [] 0 (List.length x_h.Guests) 17])]) (H1:=[z3,z6,z7]) kr kr (Aw.sreg [0,3] [0,1,2,3] ?_)
 let q3:Root:=⟨26,[sw 1 x_h.Words,.sref 2 [] 0 (List.length x_h.Guests) 17]⟩; let z8:=(3,some q3)
 refine yt (sp 31 [z2,(3,pp 3)]) [z3,z6,z7,z8] 4 (Aw.sreg [0,3,5] [0,1,2,3] (yu 1 [(6,pp 0)] [z3,z6,z7,z8] 4 ?_))
 obtain ⟨v1,hv1,hh⟩:=bind_some hh
 let z9:EH:=(0,some ⟨135,(B_135 v1.1)⟩); let z10:=(5,ii v1.2); let z1:=List.getD x_h.Guests (Int.toNat v1.2) default
 refine ys (.call 90 [(.t 6),(.c (ii 3))]) (some 7) (op_callf (v':=ii v1.2) (Hp':=[z9]) (n':=4) [0] (__spec_l20Rd__pick_fn hv1) (args':=[pp 0,ii 3]) kr rfl rfl rfl rz rfl (hq ⟨135,(B_135 x_r)⟩ (rens_same (nr_B_135 _)) hs_nil) ren_i rfl (hq ⟨135,(B_135 v1.1)⟩ (rens_same (nr_B_135 _)) hs_nil) rfl ?_)
 refine yt (sp 31 [z2,(3,pp 3),z10]) [z9,z6,z7,z8] 4 ?_
 obtain ⟨j2,hh,hk2⟩:=bind_some hh
 refine Aw.join (S:=(List Int) × Int × Int) (fun s2=>sp 31 [(0,pp 0),(5,ii s2.2.2)]) (fun s2=>[(0,some ⟨135,[bo (eI .u8) s2.1,ii s2.2.1]⟩),(1,some ⟨3,(fl (eI .i64) x_h.Words)⟩),(2,some ⟨53,(fl O_53 x_h.Guests)⟩)]) 3 (fun s2=>F_spec_l20At_j2 x_h s2=some R_) ?_ ?_
 · intro s2 hh
   unfold F_spec_l20At_j2 at hh
   refine Aw.sreg [4] [0,1,2] ?_
   let q4:Root:=⟨135,[bo (eI .u8) s2.1,ii s2.2.1]⟩
   refine yj 2  (sp 31 [z2,(5,ii s2.2.2),(26,ii s2.2.2),(27,pp 0)]) [(0,some q4),z6,z7] 3 ?_
   obtain ⟨v3,hv3,hh⟩:=bind_some hh
   refine ys (.call 90 [(.t 27),(.c (ii 25))]) (some 28) (op_callf (v':=ii v3.2) (Hp':=[(0,some ⟨135,(B_135 v3.1)⟩)]) (n':=3) [0] (__spec_l20Rd__pick_fn hv3) (args':=[pp 0,ii 25]) kr rfl rfl rfl rz rfl (hq q4 rz hs_nil) ren_i rfl (hq ⟨135,(B_135 v3.1)⟩ (rens_same (nr_B_135 _)) hs_nil) rfl ?_)
   refine ytc [(24:Int)≠0] (sp 31 [(4,ii (w64 (s2.2.2 - (w64 (Int.tdiv v3.2 (24:Int))))))]) [(0,some ⟨135,(B_135 v3.1)⟩),z6,z7] 3 (.cons dd .nil) (Aw.ret ?_)
   rw [some_some hh]
   exact gives (r':=ii (w64 (s2.2.2 - (w64 (Int.tdiv v3.2 (24:Int)))))) kr (el [some 0,some 1,some 2] (rens_1 ren_i) (hq ⟨135,(B_135 v3.1)⟩ (rens_same (nr_B_135 _)) (hn nr_eI (hn nr_O_53 hs_nil))))
 intro Q2 hN2 hR2 hE2
 refine Aw.sreg [0,5,25] [0,1,2] (yj 5  (sp 31 [z2,(3,pp 3),z10,(8,.ptr 3 [] 1),z5,z4,(11,bb (decide ((((List.length x_h.Guests):Nat):Int)=(3:Int)))),(12,bb (decide ((((List.length x_h.Guests):Nat):Int)=(3:Int))))]) [z9,z6,z7,z8] 4 ?_)
 rcases cond_sf hh with ⟨hb,hh⟩ | ⟨hb,hh⟩
 · refine yb 11 hb (yb 12 hb (yt (sp 31 [z2,z10,(25,bb false)]) [z9,z6,z7] 4 (cF rfl (Aw.skip ?_))))
   obtain rfl:=some_some hh
   exact hN2 (v1.1.b,v1.1.p,v1.2) _ _ _ hk2 (el [some 0,some 1,some 2] (rens_sp kr (rp 0 (ri rl_n))) (hq ⟨135,(B_135 v1.1)⟩ rz (hn nr_eI (hn nr_O_53 hs_nil))))
 refine yb 11 hb (yb 12 hb ?_)
 obtain ⟨hg6,hh⟩:=grd_some hh
 refine yjc 5 [(0:Int)≤v1.2∧v1.2<(((List.length x_h.Guests):Nat):Int)] (sp 31 [z2,(3,pp 3),z10,(8,.ptr 3 [] 1),z5,z4,(11,bb true),(12,bb true),(13,.ptr 3 [] 1),(14,.sref 2 [] 0 (List.length x_h.Guests) 17),(15,ii v1.2),(16,.ptr 2 [] (0+(Int.toNat v1.2)*17)),(17,.ptr 2 [] (0+(Int.toNat v1.2)*17+0))]) [z9,z6,z7,z8] 4 (.cons hg6 .nil) (yg (.load false 1 (.t 17)) (some 18) 12 true (op_load (c:=O_53) (xs:=x_h.Guests) (e:=53) (r:=2) (π:=[]) (o:=0+(Int.toNat v1.2)*17+0) (i:=(Int.toNat v1.2)) (off:=0) (v:=bb (z1.Live)) len_O_53 kr kr ltn ltn dd kr ?_))
 refine yu 3 [(18,bb (z1.Live)),(19,bb (!(z1.Live))),(20,bb (!(z1.Live))),(21,bb (!(z1.Live)))] [z9,z6,z7,z8] 4 ?_
 rcases cond_sf hh with ⟨hb,hh⟩ | ⟨hb,hh⟩
 · refine yb 19 hb (yb 20 hb (yb 21 hb (yt (sp 31 [z2,z10,(25,bb false)]) [z9,z6,z7] 4 (cF rfl (Aw.skip ?_)))))
   obtain rfl:=some_some hh
   exact hN2 (v1.1.b,v1.1.p,v1.2) _ _ _ hk2 (el [some 0,some 1,some 2] (rens_sp kr (rp 0 (ri rl_n))) (hq ⟨135,(B_135 v1.1)⟩ rz (hn nr_eI (hn nr_O_53 hs_nil))))
 refine yb 19 hb (yb 20 hb (yb 21 hb (yu 1 [(19,bb true),(20,bb true),(21,bb true),(22,pp 0)] [z9,z6,z7,z8] 4 ?_)))
 obtain ⟨v4,hv4,hh⟩:=bind_some hh
 let z11:EH:=(0,some ⟨135,(B_135 v4.1)⟩); let z12:=(25,bb (decide ((0:Int)<v4.2)))
 refine yg (.call 90 [(.t 22),(.c (ii 6))]) (some 23) 21 true (op_callf (v':=ii v4.2) (Hp':=[z11]) (n':=4) [0] (__spec_l20Rd__pick_fn hv4) (args':=[pp 0,ii 6]) kr rfl rfl rfl rz rfl (hq ⟨135,(B_135 v1.1)⟩ (rens_same (nr_B_135 _)) hs_nil) ren_i rfl (hq ⟨135,(B_135 v4.1)⟩ (rens_same (nr_B_135 _)) hs_nil) rfl ?_)
 refine yt (sp 31 [z2,z10,z12]) [z11,z6,z7] 4 ?_
 rcases cond_sf hh with ⟨hb,hh⟩ | ⟨hb,hh⟩
 · refine cF hb (Aw.skip ?_)
   obtain rfl:=some_some hh
   exact hN2 (v4.1.b,v4.1.p,v1.2) _ _ _ hk2 (el [some 0,some 1,some 2] (rens_sp kr (rp 0 (ri rl_n))) (hq ⟨135,(B_135 v4.1)⟩ rz (hn nr_eI (hn nr_O_53 hs_nil))))
 refine cT hb (Aw.oreg (ye (sp 31 [z2,(5,ii 0),z12]) [z11,z6,z7] 4 ?_))
 obtain rfl:=some_some hh
 exact hN2 (v4.1.b,v4.1.p,(0:Int)) _ _ _ hk2 (el [some 0,some 1,some 2] (rens_sp kr (rp 0 (ri rl_n))) (hq ⟨135,(B_135 v4.1)⟩ rz (hn nr_eI (hn nr_O_53 hs_nil))))
def Lf99_r0:List LOper:=[oo 2 (.fresh 26 [.nil,.nil])]
def Lf99_r1:List LOper:=[om 7 0,oo 8 (.call 67 [(.t 7),(.c (ii 25))]),oo 3 (.fresh 26 [.nil,.nil]),oS 2 3 8]
def Lf99_r2:List LOper:=[om 9 0,oo 10 (.call 90 [(.t 9),(.c (ii 4))]),ob 11 .eql 10 0,om 12 11,og 13 (.load true 2 (.t 3)) 12 true,og 14 (.call 52 [(.t 13)]) 12 true,oP 15 12 14]
def Lf99_r3:List LOper:=[oN 4 0]
def Lf99_r4:List LOper:=[om 16 4,ob 17 .lss 16 3]
def Lf99_r5:List LOper:=[oN 5 0]
def Lf99_r6:List LOper:=[om 20 5,oA 21 1 3,ol 22 21,om 23 4,oi 24 17 22 23,oA 25 14 24,ol 26 25,oH 27 26,oB 28 .lss 20 27]
def Lf99_r7:List LOper:=[oL 31 2 3,oK 32 62 [31],om 6 32]
def Lf99_r8:List LOper:=[oA 33 1 3,ol 34 33,om 35 4,oi 36 17 34 35,oA 37 14 36,ol 38 37,om 39 5,oi 40 3 38 39,oA 41 0 40,ol 42 41,ob 43 .lss 42 0,om 44 43,og 45 (.mv (.t 6)) 44 true,og 46 (.len (.t 45)) 44 true,og 47 (.bin .gtr (.t 46) (.c (ii 0))) 44 true,oP 48 44 47,om 49 48,og 50 (.mv (.t 0)) 49 true,og 51 (.call 90 [(.t 50),(.c (ii 6))]) 49 true,og 52 (.bin .gtr (.t 51) (.c (ii 0))) 49 true,oP 53 49 52]
def Lf99_r9:List LOper:=[oA 54 1 3,ol 55 54,om 56 4,oi 57 17 55 56,oA 58 14 57,ol 59 58,om 60 5,om 61 6,oo 62 (.iadr 1 (.t 61) (.c (ii 0))),ol 63 62,oo 64 (.bld [(ii 0),(bb false),(bb false)] [(0,(1,(.t 63))),(1,(1,(.c (bb true))))]),oi 65 3 59 60]
def Lf99_r9t:List LOper:=[oS 3 65 64]
def Lf99_r11:List LOper:=[om 29 5,ob 30 .add 29 1,om 5 30]
def Lf99_l12:LCode:=(.seq (.seq (.reg false Lf99_r6) (.cond (.t 28) .skip (.exit 2))) (.seq (.block 3 (.seq (.reg false Lf99_r7) (.seq (.reg false Lf99_r8) (.cond (.t 53) (.regt Lf99_r9 Lf99_r9t) .skip)))) (.reg false Lf99_r11)))
def Lf99_r13:List LOper:=[om 18 4,ob 19 .add 18 1,om 4 19]
def Lf99_l14:LCode:=(.seq (.seq (.reg false Lf99_r4) (.cond (.t 17) .skip (.exit 0))) (.seq (.block 1 (.seq (.reg false Lf99_r5) (.block 2 (.loop Lf99_l12)))) (.reg false Lf99_r13)))
def Lf99_r15:List LOper:=[oL 66 2 3,oS 2 2 66]
def Lf99:LFun:=⟨67,[(.cell 2 true 2)],(.seq (.reg false Lf99_r0) (.seq (.reg false Lf99_r1) (.seq (.seq (.reg false Lf99_r2) (.cond (.t 15) (.seq (.reg false Lf99_r3) (.block 0 (.loop Lf99_l14))) .skip)) (.seq (.reg false Lf99_r15) .ret))))⟩
theorem low_spec_l20Full:lowFun Go.Proofs.Try.prog 99=some Lf99:=by kernel_rfl
noncomputable def F_spec_l20Full_j2 (v1:Dl20Rd × DHost) (s2:(List DGuest) × (List Int) × Int):Option (Dl20Rd × DHost) :=
 some ((Dl20Rd.mk s2.2.1 s2.2.2),(DHost.mk v1.2.Words s2.1))
noncomputable def F_spec_l20Full_j6 (s5:(List Int) × Int × (List DGuest) × Int) (s6:(List Int) × Int × (List DGuest)):Option (LO ((List Int) × Int × (List DGuest) × Int) (JO ((List DGuest) × (List Int) × Int) (Dl20Rd × DHost))) :=
 some (.next (s6.1,s6.2.1,s6.2.2,(w64 (s5.2.2.2+(1:Int)))))
noncomputable def F_spec_l20Full_j8 (s7:(List Int) × Int × (List DGuest) × Int) (s8:(List Int) × Int × (List DGuest)):Option (LO ((List Int) × Int × (List DGuest) × Int) (JO ((List Int) × Int × (List DGuest)) (LO ((List Int) × Int × (List DGuest) × Int) (JO ((List DGuest) × (List Int) × Int) (Dl20Rd × DHost))))) :=
 some (.next (s8.1,s8.2.1,s8.2.2,(w64 (s7.2.2.2+(1:Int)))))
noncomputable def F_spec_l20Full_l7 (v1:Dl20Rd × DHost) (s5:(List Int) × Int × (List DGuest) × Int) (s7:(List Int) × Int × (List DGuest) × Int):Option (LO ((List Int) × Int × (List DGuest) × Int) (JO ((List Int) × Int × (List DGuest)) (LO ((List Int) × Int × (List DGuest) × Int) (JO ((List DGuest) × (List Int) × Int) (Dl20Rd × DHost))))) :=
 grd ((0:Int)≤s5.2.2.2∧s5.2.2.2<(((List.length s7.2.2.1):Nat):Int)) (cond (decide (s7.2.2.2<(((List.length ((List.getD s7.2.2.1 (Int.toNat s5.2.2.2) default).Pages)):Nat):Int)))
  (Option.bind (Option.bind (F_spec_HostFree (DHost.mk v1.2.Words s7.2.2.1)) fun v9 =>
   grd ((0:Int)≤s5.2.2.2∧s5.2.2.2<(((List.length s7.2.2.1):Nat):Int)) (grd ((0:Int)≤s7.2.2.2∧s7.2.2.2<(((List.length ((List.getD s7.2.2.1 (Int.toNat s5.2.2.2) default).Pages)):Nat):Int)) (cond (decide (((List.getD ((List.getD s7.2.2.1 (Int.toNat s5.2.2.2) default).Pages) (Int.toNat s7.2.2.2) default).Frame)<(0:Int)))
    (cond (decide ((0:Int)<(((List.length v9):Nat):Int)))
     (Option.bind (F___spec_l20Rd__pick (Dl20Rd.mk s7.1 s7.2.1) (6:Int)) fun v10 =>
     cond (decide ((0:Int)<v10.2))
      (grd ((0:Int)≤s5.2.2.2∧s5.2.2.2<(((List.length s7.2.2.1):Nat):Int)) (grd ((0:Int)≤(0:Int)∧(0:Int)<(((List.length v9):Nat):Int)) (grd ((0:Int)≤s7.2.2.2∧s7.2.2.2<(((List.length ((List.getD s7.2.2.1 (Int.toNat s5.2.2.2) default).Pages)):Nat):Int)) (some (.go (v10.1.b,v10.1.p,(List.set s7.2.2.1 (Int.toNat s5.2.2.2) (DGuest.mk ((List.getD s7.2.2.1 (Int.toNat s5.2.2.2) default).Live) (DCore.mk (((List.getD s7.2.2.1 (Int.toNat s5.2.2.2) default).C).Regs) (((List.getD s7.2.2.1 (Int.toNat s5.2.2.2) default).C).Pc) (((List.getD s7.2.2.1 (Int.toNat s5.2.2.2) default).C).Root) (((List.getD s7.2.2.1 (Int.toNat s5.2.2.2) default).C).Vector) (((List.getD s7.2.2.1 (Int.toNat s5.2.2.2) default).C).Saved) (((List.getD s7.2.2.1 (Int.toNat s5.2.2.2) default).C).SavedUser) (((List.getD s7.2.2.1 (Int.toNat s5.2.2.2) default).C).Cause) (((List.getD s7.2.2.1 (Int.toNat s5.2.2.2) default).C).Bad) (((List.getD s7.2.2.1 (Int.toNat s5.2.2.2) default).C).Timer) (((List.getD s7.2.2.1 (Int.toNat s5.2.2.2) default).C).Waits) (((List.getD s7.2.2.1 (Int.toNat s5.2.2.2) default).C).User) (((List.getD s7.2.2.1 (Int.toNat s5.2.2.2) default).C).On) (((List.getD s7.2.2.1 (Int.toNat s5.2.2.2) default).C).Stopped)) (List.set ((List.getD s7.2.2.1 (Int.toNat s5.2.2.2) default).Pages) (Int.toNat s7.2.2.2) (DSlot.mk (List.getD v9 0 default) true false)) ((List.getD s7.2.2.1 (Int.toNat s5.2.2.2) default).In) ((List.getD s7.2.2.1 (Int.toNat s5.2.2.2) default).Out)))))))))
      (some (.go (v10.1.b,v10.1.p,s7.2.2.1))))
     (some (.go (s7.1,s7.2.1,s7.2.2.1))))
    (some (.go (s7.1,s7.2.1,s7.2.2.1)))))) fun j8 =>
   JO.run j8 (F_spec_l20Full_j8 s7))
  (some (.ret (.go (s7.1,s7.2.1,s7.2.2.1)))))
noncomputable def F_spec_l20Full_l5 (v1:Dl20Rd × DHost) (s5:(List Int) × Int × (List DGuest) × Int):Option (LO ((List Int) × Int × (List DGuest) × Int) (JO ((List DGuest) × (List Int) × Int) (Dl20Rd × DHost))) :=
 cond (decide (s5.2.2.2<(3:Int)))
  (Option.bind (Option.bind (iter (F_spec_l20Full_l7 v1 s5) (s5.1,s5.2.1,s5.2.2.1,(0:Int))) LO.val) fun j6 =>
   JO.run j6 (F_spec_l20Full_j6 s5))
  (some (.ret (.go (s5.2.2.1,s5.1,s5.2.1))))
noncomputable def F_spec_l20Full (x_r:Dl20Rd):Option (Dl20Rd × DHost) :=
 Option.bind (F_spec_l20Host x_r (25:Int)) fun v1 =>
 Option.bind (Option.bind (F___spec_l20Rd__pick v1.1 (4:Int)) fun v3 =>
  cond (decide (v3.2=(0:Int)))
   (Option.bind (F_spec_HostOk v1.2) fun v4 =>
   cond v4
    (Option.bind (iter (F_spec_l20Full_l5 v1) (v3.1.b,v3.1.p,v1.2.Guests,(0:Int))) LO.val)
    (some (.go (v1.2.Guests,v3.1.b,v3.1.p))))
   (some (.go (v1.2.Guests,v3.1.b,v3.1.p)))) fun j2 =>
  JO.run j2 (F_spec_l20Full_j2 v1)
theorem spec_l20Full_fn {x_r:Dl20Rd} {R_:Dl20Rd × DHost} (hh:F_spec_l20Full x_r=some R_):Inl Try.prog 99 [pp 0] [(0,some ⟨135,(B_135 x_r)⟩)] 1 (.agg [.sref 1 [] 0 (List.length R_.2.Words) 1,.sref 2 [] 0 (List.length R_.2.Guests) 17]) [(2,some ⟨53,(fl O_53 R_.2.Guests)⟩),(1,some ⟨3,(fl (eI .i64) R_.2.Words)⟩),(0,some ⟨135,[bo (eI .u8) R_.1.b,.int .i64 R_.1.p]⟩)] 3:=by
 let z7:=(0,pp 0); let z8:EH:=(0,some ⟨135,(B_135 x_r)⟩); let z9:EH:=(1,some ⟨26,[.nil,.nil]⟩); let z10:=(2,pp 1); let z11:=(3,pp 2); let z12:EV:=(54,.ptr 2 [] 1)
 unfold F_spec_l20Full at hh
 refine Inl.start low_spec_l20Full [0] [0] (E:=sp 67 [z7]) (H1:=[z8]) kr kr (sy [0,2] [0,1] (sp 67 [z7,z10]) [z8,z9] 2 (Aw.sreg [0,2,3] [0,1,2,3,4] (yu 1 [(7,pp 0)] [z8,z9] 2 ?_)))
 obtain ⟨v1,hv1,hh⟩:=bind_some hh
 let z13:EH:=(0,some ⟨135,(B_135 v1.1)⟩); let q1:Root:=⟨53,(fl O_53 v1.2.Guests)⟩; let z14:=(3,some q1); let q2:Root:=⟨3,(fl (eI .i64) v1.2.Words)⟩; let z15:=(2,some q2); let z16:=(3,some q2)
 refine ys (.call 67 [(.t 7),(.c (ii 25))]) (some 8) (op_callf (v':=.agg [sw 2 v1.2.Words,.sref 3 [] 0 (List.length v1.2.Guests) 17]) (Hp':=[z14,z15,z13]) (n':=4) [0] (spec_l20Host_fn hv1) (args':=[pp 0,ii 25]) kr rfl rfl rfl rz rfl (hq ⟨135,(B_135 x_r)⟩ (rens_same (nr_B_135 _)) hs_nil) (ren_agg rz) rfl (hn nr_O_53 (hn nr_eI (hq ⟨135,(B_135 v1.1)⟩ (rens_same (nr_B_135 _)) hs_nil))) rfl ?_)
 let q3:Root:=⟨26,[sw 2 v1.2.Words,.sref 3 [] 0 (List.length v1.2.Guests) 17]⟩; let z17:=(4,some q3)
 refine yt (sp 67 [z7,z10,(3,pp 4)]) [z13,z9,z15,z14,z17] 5 ?_
 obtain ⟨j2,hh,hk2⟩:=bind_some hh
 refine Aw.join (S:=(List DGuest) × (List Int) × Int) (fun s2=>sp 67 [(2,pp 1),(3,pp 2)]) (fun s2=>[(0,some ⟨135,[bo (eI .u8) s2.2.1,ii s2.2.2]⟩),(1,some ⟨26,[.nil,.nil]⟩),(2,some ⟨26,[sw 3 v1.2.Words,.sref 4 [] 0 (List.length s2.1) 17]⟩),(3,some ⟨3,(fl (eI .i64) v1.2.Words)⟩),(4,some ⟨53,(fl O_53 s2.1)⟩)]) 5 (fun s2=>F_spec_l20Full_j2 v1 s2=some R_) ?_ ?_
 · intro s2 hh
   unfold F_spec_l20Full_j2 at hh
   refine Aw.sreg [2] [0,1,3,4] ?_
   let q4:Root:=⟨135,[bo (eI .u8) s2.2.1,ii s2.2.2]⟩
   refine yt (sp 67 [z10]) [(0,some q4),(1,some ⟨26,[sw 3 v1.2.Words,.sref 4 [] 0 (List.length s2.1) 17]⟩),z16,(4,some ⟨53,(fl O_53 s2.1)⟩)] 5 (Aw.ret ?_)
   rw [some_some hh]
   exact gives (r':=.agg [sw 3 v1.2.Words,.sref 4 [] 0 (List.length s2.1) 17]) kr (el [some 0,some 3,some 4] (rens_1 (ren_agg rz)) (hn nr_O_53 (hn nr_eI (hq q4 rz hs_nil))))
 intro Q2 hN2 hR2 hE2
 refine Aw.sreg [0,2,3,15] [0,1,2,3,4] (yj 1  (sp 67 [z7,z10,(3,pp 4),(9,pp 0)]) [z13,z9,z15,z14,z17] 5 ?_)
 obtain ⟨v3,hv3,hh⟩:=bind_some hh
 let z18:EH:=(0,some ⟨135,(B_135 v3.1)⟩)
 refine ys (.call 90 [(.t 9),(.c (ii 4))]) (some 10) (op_callf (v':=ii v3.2) (Hp':=[z18]) (n':=5) [0] (__spec_l20Rd__pick_fn hv3) (args':=[pp 0,ii 4]) kr rfl rfl rfl rz rfl (hq ⟨135,(B_135 v1.1)⟩ (rens_same (nr_B_135 _)) hs_nil) ren_i rfl (hq ⟨135,(B_135 v3.1)⟩ (rens_same (nr_B_135 _)) hs_nil) rfl ?_)
 refine yu 2 [(10,ii v3.2),(11,bb (decide (v3.2=(0:Int)))),(12,bb (decide (v3.2=(0:Int))))] [z18,(0,none),z13,z9,z15,z14,z17] 5 ?_
 rcases cond_sf hh with ⟨hb,hh⟩ | ⟨hb,hh⟩
 · refine yb 11 hb (yb 12 hb (yt (sp 67 [z7,z10,(3,pp 4),(15,bb false)]) [z18,z9,z15,z14,z17] 5 (cF rfl (Aw.skip ?_))))
   obtain rfl:=some_some hh
   exact hN2 (v1.2.Guests,v3.1.b,v3.1.p) _ _ _ hk2 (el [some 0,some 1,some 4,some 2,some 3] (rens_sp kr (rp 1 (rp 4 rl_n))) (hq ⟨135,(B_135 v3.1)⟩ rz (hq ⟨26,[.nil,.nil]⟩ rz (hq q3 rz (hn nr_eI (hn nr_O_53 hs_nil))))))
 refine yb 11 hb (yb 12 hb (yu 1 [(11,bb true),(12,bb true),(13,.agg [sw 2 v1.2.Words,.sref 3 [] 0 (List.length v1.2.Guests) 17])] [z18,(0,none),z13,z9,z15,z14,z17] 5 ?_))
 obtain ⟨v4,hv4,hh⟩:=bind_some hh
 refine yg (.call 52 [(.t 13)]) (some 14) 12 true (op_call (r:=bb v4) (v:=bb v4) (Hr:=[]) (n':=5) (spec_HostOk_fn hv4) (clz_v (vs:=[.agg [sw 2 v1.2.Words,.sref 3 [] 0 (List.length v1.2.Guests) 17]]) kr (clz_c (clo_agg (clos_c (clo_own (c:=(eI .i64)) (xs:=v1.2.Words) (e:=3) eqn len_eI no_eI cl_eI kr) (clos_c (clo_flr (B:=B_53) (xs:=v1.2.Guests) (e:=53) oc_O_53 len_O_53 eqn kr) clos_n))) clz_n)) rfl rfl kr ?_)
 refine yt (sp 67 [z7,z10,(3,pp 4),(15,bb v4)]) [z18,z9,z15,z14,z17] 5 ?_
 rcases cond_sf hh with ⟨hb,hh⟩ | ⟨hb,hh⟩
 · refine cF hb (Aw.skip ?_)
   obtain rfl:=some_some hh
   exact hN2 (v1.2.Guests,v3.1.b,v3.1.p) _ _ _ hk2 (el [some 0,some 1,some 4,some 2,some 3] (rens_sp kr (rp 1 (rp 4 rl_n))) (hq ⟨135,(B_135 v3.1)⟩ rz (hq ⟨26,[.nil,.nil]⟩ rz (hq q3 rz (hn nr_eI (hn nr_O_53 hs_nil))))))
 refine cT hb (sy [0,2,3,4] [0,1,2,3,4] (sp 67 [z7,z10,(3,pp 4),(4,ii 0)]) [z18,z9,z15,z14,z17] 5 (Aw.block ?_))
 obtain ⟨o5,hi5,hk5⟩:=bind_some hh
 refine Aw.iter (fun (s5:(List Int) × Int × (List DGuest) × Int)=>sp 67 [(0,pp 0),(2,pp 1),(3,pp 2),(4,ii s5.2.2.2)]) (fun (s5:(List Int) × Int × (List DGuest) × Int)=>[(0,some ⟨135,[bo (eI .u8) s5.1,ii s5.2.1]⟩),(1,some ⟨26,[.nil,.nil]⟩),(2,some ⟨26,[sw 3 v1.2.Words,.sref 4 [] 0 (List.length s5.2.2.1) 17]⟩),(3,some ⟨3,(fl (eI .i64) v1.2.Words)⟩),(4,some ⟨53,(fl O_53 s5.2.2.1)⟩)]) 5 hi5 (el [some 0,some 1,some 4,some 2,some 3] (rens_sp kr (rp 0 (rp 1 (rp 4 (ri rl_n))))) (hq ⟨135,(B_135 v3.1)⟩ rz (hq ⟨26,[.nil,.nil]⟩ rz (hq q3 rz (hn nr_eI (hn nr_O_53 hs_nil)))))) ?_
 intro s5 u5 Q5 hh hN5 hX5 hR5
 let z19:EV:=(36,.ptr 4 [] (0+(Int.toNat s5.2.2.2)*17)); let z20:EV:=(37,.ptr 4 [] (0+(Int.toNat s5.2.2.2)*17+14)); let z21:=(4,ii s5.2.2.2); let z22:EH:=(4,some ⟨53,(fl O_53 s5.2.2.1)⟩); let z23:=(56,ii s5.2.2.2); let z24:EV:=(57,.ptr 4 [] (0+(Int.toNat s5.2.2.2)*17)); let z25:EV:=(58,.ptr 4 [] (0+(Int.toNat s5.2.2.2)*17+14))
 unfold F_spec_l20Full_l5 at hh
 refine Aw.seq (Aw.sreg [0,2,3,4,17] [0,1,2,3,4] ?_)
 let q5:Root:=⟨135,[bo (eI .u8) s5.1,ii s5.2.1]⟩; let q6:Root:=⟨26,[sw 3 v1.2.Words,.sref 4 [] 0 (List.length s5.2.2.1) 17]⟩
 refine yt (sp 67 [z7,z10,z11,z21,(17,bb (decide (s5.2.2.2<(3:Int))))]) [(0,some q5),z9,(2,some q6),z16,z22] 5 ?_
 rcases cond_sf hh with ⟨hb,hh⟩ | ⟨hb,hh⟩
 · refine cF hb (Aw.exit (then_x (hX5 _ _ _ _ _ (some_some hh) ?_)))
   intro hout
   rw [hout] at hk5
   refine blk_x ?_
   obtain rfl:=some_some hk5
   exact hN2 (s5.2.2.1,s5.1,s5.2.1) _ _ _ hk2 (el [some 0,some 1,some 2,some 3,some 4] (rens_sp kr (rp 1 (rp 2 rl_n))) (hq q5 rz (hq ⟨26,[.nil,.nil]⟩ rz (hq q6 rz (hn nr_eI (hn nr_O_53 hs_nil))))))
 refine cT hb (Aw.xskip (fun _ _ _ hq=>then_m hq) ?_)
 obtain ⟨j6,hh,hk6⟩:=bind_some hh
 refine Aw.join (S:=(List Int) × Int × (List DGuest)) (fun s6=>sp 67 [(0,pp 0),(2,pp 1),(3,pp 2),(4,ii s5.2.2.2)]) (fun s6=>[(0,some ⟨135,[bo (eI .u8) s6.1,ii s6.2.1]⟩),(1,some ⟨26,[.nil,.nil]⟩),(2,some ⟨26,[sw 3 v1.2.Words,.sref 4 [] 0 (List.length s6.2.2) 17]⟩),(3,some ⟨3,(fl (eI .i64) v1.2.Words)⟩),(4,some ⟨53,(fl O_53 s6.2.2)⟩)]) 5 (fun s6=>F_spec_l20Full_j6 s5 s6=some u5) ?_ ?_
 · intro s6 hh
   unfold F_spec_l20Full_j6 at hh
   refine Aw.oreg ?_
   let q7:Root:=⟨135,[bo (eI .u8) s6.1,ii s6.2.1]⟩; let q8:Root:=⟨26,[sw 3 v1.2.Words,.sref 4 [] 0 (List.length s6.2.2) 17]⟩
   exact ye (sp 67 [z7,z10,z11,(4,ii (w64 (s5.2.2.2+(1:Int)))),(18,ii s5.2.2.2),(19,ii (w64 (s5.2.2.2+(1:Int))))]) [(0,some q7),z9,(2,some q8),z16,(4,some ⟨53,(fl O_53 s6.2.2)⟩)] 5 (hN5 (s6.1,s6.2.1,s6.2.2,(w64 (s5.2.2.2+(1:Int)))) _ _ _ (some_some hh) (el [some 0,some 1,some 2,some 3,some 4] (rens_sp kr (rp 0 (rp 1 (rp 2 (ri rl_n))))) (hq q7 rz (hq ⟨26,[.nil,.nil]⟩ rz (hq q8 rz (hn nr_eI (hn nr_O_53 hs_nil)))))))
 intro Q6 hN6 hR6 hE6
 refine Aw.block (sy [0,2,3,4,5] [0,1,2,3,4] (sp 67 [z7,z10,z11,z21,(5,ii 0)]) [(0,some q5),z9,(2,some q6),z16,z22] 5 (Aw.block ?_))
 obtain ⟨o7,hi7,hk7⟩:=bind_some hh
 refine Aw.iter (fun (s7:(List Int) × Int × (List DGuest) × Int)=>sp 67 [(0,pp 0),(2,pp 1),(3,pp 2),(4,ii s5.2.2.2),(5,ii s7.2.2.2)]) (fun (s7:(List Int) × Int × (List DGuest) × Int)=>[(0,some ⟨135,[bo (eI .u8) s7.1,ii s7.2.1]⟩),(1,some ⟨26,[.nil,.nil]⟩),(2,some ⟨26,[sw 3 v1.2.Words,.sref 4 [] 0 (List.length s7.2.2.1) 17]⟩),(3,some ⟨3,(fl (eI .i64) v1.2.Words)⟩),(4,some ⟨53,(fl O_53 s7.2.2.1)⟩)]) 5 hi7 (el [some 0,some 1,some 2,some 3,some 4] (rens_sp kr (rp 0 (rp 1 (rp 2 (ri (ri rl_n)))))) (hq q5 rz (hq ⟨26,[.nil,.nil]⟩ rz (hq q6 rz (hn nr_eI (hn nr_O_53 hs_nil)))))) ?_
 intro s7 u7 Q7 hh hN7 hX7 hR7
 let z26:EV:=(34,.sref 4 [] 0 (List.length s7.2.2.1) 17); let z27:EH:=(4,some ⟨53,(fl O_53 s7.2.2.1)⟩); let z28:=(5,ii s7.2.2.2); let z29:EV:=(55,.sref 4 [] 0 (List.length s7.2.2.1) 17); let z30:EV:=(65,.ptr 4 [0+(Int.toNat s5.2.2.2)*17+14+0] (0+(Int.toNat s7.2.2.2)*3)); let z1:=List.getD s7.2.2.1 (Int.toNat s5.2.2.2) default; let z31:=(28,bb (decide (s7.2.2.2<(((List.length (z1.Pages)):Nat):Int)))); let z32:EV:=(59,.sref 4 [0+(Int.toNat s5.2.2.2)*17+14+0] 0 (List.length (z1.Pages)) 3); let z3:=List.getD (z1.Pages) (Int.toNat s7.2.2.2) default
 unfold F_spec_l20Full_l7 at hh
 refine Aw.seq (Aw.sreg [0,2,3,4,5,28] [0,1,2,3,4] ?_)
 obtain ⟨hg1224,hh⟩:=grd_some hh
 let q9:Root:=⟨135,[bo (eI .u8) s7.1,ii s7.2.1]⟩; let z33:=(0,some q9); let q10:Root:=⟨26,[sw 3 v1.2.Words,.sref 4 [] 0 (List.length s7.2.2.1) 17]⟩; let z34:=(2,some q10)
 refine yjc 6 [(0:Int)≤s5.2.2.2∧s5.2.2.2<(((List.length s7.2.2.1):Nat):Int)] (sp 67 [z7,z10,z11,z21,z28,(20,ii s7.2.2.2),(21,.ptr 2 [] 1),(22,.sref 4 [] 0 (List.length s7.2.2.1) 17),(23,ii s5.2.2.2),(24,.ptr 4 [] (0+(Int.toNat s5.2.2.2)*17)),(25,.ptr 4 [] (0+(Int.toNat s5.2.2.2)*17+14))]) [z33,z9,z34,z16,z27] 5 (.cons hg1224 .nil) (ys (.load false 1 (.t 25)) (some 26) (op_load (c:=O_53) (xs:=s7.2.2.1) (e:=53) (r:=4) (π:=[]) (o:=0+(Int.toNat s5.2.2.2)*17+14) (i:=(Int.toNat s5.2.2.2)) (off:=14) (v:=.sref 4 [0+(Int.toNat s5.2.2.2)*17+14+0] 0 (List.length (z1.Pages)) 3) len_O_53 kr kr ltn ltn dd kr ?_))
 refine yt (sp 67 [z7,z10,z11,z21,z28,z31]) [z33,z9,z34,z16,z27] 5 ?_
 rcases cond_sf hh with ⟨hb,hh⟩ | ⟨hb,hh⟩
 · refine cF hb (Aw.exit (then_x (hX7 _ _ _ _ _ (some_some hh) ?_)))
   intro hout
   rw [hout] at hk7
   refine blk_x (blk_m ?_)
   obtain rfl:=some_some hk7
   exact hN6 (s7.1,s7.2.1,s7.2.2.1) _ _ _ hk6 (el [some 0,some 1,some 2,some 3,some 4] (rens_sp kr (rp 0 (rp 1 (rp 2 (ri rl_n))))) (hq q9 rz (hq ⟨26,[.nil,.nil]⟩ rz (hq q10 rz (hn nr_eI (hn nr_O_53 hs_nil))))))
 refine cT hb (Aw.xskip (fun _ _ _ hq=>then_m hq) ?_)
 obtain ⟨j8,hh,hk8⟩:=bind_some hh
 refine Aw.join (S:=(List Int) × Int × (List DGuest)) (fun s8=>sp 67 [(0,pp 0),(2,pp 1),(3,pp 2),(4,ii s5.2.2.2),(5,ii s7.2.2.2)]) (fun s8=>[(0,some ⟨135,[bo (eI .u8) s8.1,ii s8.2.1]⟩),(1,some ⟨26,[.nil,.nil]⟩),(2,some ⟨26,[sw 3 v1.2.Words,.sref 4 [] 0 (List.length s8.2.2) 17]⟩),(3,some ⟨3,(fl (eI .i64) v1.2.Words)⟩),(4,some ⟨53,(fl O_53 s8.2.2)⟩)]) 5 (fun s8=>F_spec_l20Full_j8 s7 s8=some u7) ?_ ?_
 · intro s8 hh
   unfold F_spec_l20Full_j8 at hh
   refine Aw.oreg ?_
   let q11:Root:=⟨135,[bo (eI .u8) s8.1,ii s8.2.1]⟩; let q12:Root:=⟨26,[sw 3 v1.2.Words,.sref 4 [] 0 (List.length s8.2.2) 17]⟩
   exact ye (sp 67 [z7,z10,z11,z21,(5,ii (w64 (s7.2.2.2+(1:Int)))),(29,ii s7.2.2.2),(30,ii (w64 (s7.2.2.2+(1:Int))))]) [(0,some q11),z9,(2,some q12),z16,(4,some ⟨53,(fl O_53 s8.2.2)⟩)] 5 (hN7 (s8.1,s8.2.1,s8.2.2,(w64 (s7.2.2.2+(1:Int)))) _ _ _ (some_some hh) (el [some 0,some 1,some 2,some 3,some 4] (rens_sp kr (rp 0 (rp 1 (rp 2 (ri (ri rl_n)))))) (hq q11 rz (hq ⟨26,[.nil,.nil]⟩ rz (hq q12 rz (hn nr_eI (hn nr_O_53 hs_nil)))))))
 intro Q8 hN8 hR8 hE8
 refine Aw.block (Aw.sreg [0,2,3,4,5,6] [0,1,2,3,4,5] (yj 1  (sp 67 [z7,z10,z11,z21,z28,z31,(31,.agg [sw 3 v1.2.Words,.sref 4 [] 0 (List.length s7.2.2.1) 17])]) [z33,z9,z34,z16,z27] 5 ?_))
 obtain ⟨v9,hv9,hh⟩:=bind_some hh
 let z35:EH:=(5,some ⟨3,(fl (eI .i64) v9)⟩); let z36:=(6,sw 5 v9); let z37:EV:=(64,.agg [ii (List.getD v9 0 default),bb true,bb false]); let z2:=DSlot.mk (List.getD v9 0 default) true false; let z4:=List.set (z1.Pages) (Int.toNat s7.2.2.2) z2; let z5:=DGuest.mk (z1.Live) (z1.C) z4 (z1.In) (z1.Out); let z6:=List.set s7.2.2.1 (Int.toNat s5.2.2.2) z5
 refine ys (.call 62 [(.t 31)]) (some 32) (op_call (r:=.own 3 1 (List.length v9) (fl (eI .i64) v9)) (v:=sw 5 v9) (Hr:=[z35]) (n':=6) (spec_HostFree_fn hv9) (clz_v (vs:=[.agg [sw 3 v1.2.Words,.sref 4 [] 0 (List.length s7.2.2.1) 17]]) kr (clz_c (clo_agg (clos_c (clo_own (c:=(eI .i64)) (xs:=v1.2.Words) (e:=3) eqn len_eI no_eI cl_eI kr) (clos_c (clo_flr (B:=B_53) (xs:=s7.2.2.1) (e:=53) oc_O_53 len_O_53 eqn kr) clos_n))) clz_n)) (by simp only [AV.noRef,noRefs,Bool.and_self,noRefs_fl nr_eI]) (by simp only [AV.noBor,noBors,Bool.and_self,noBors_fl nb_eI]) kr ?_)
 refine yt (sp 67 [z7,z10,z11,z21,z28,z36]) [z33,z9,z34,z16,z27,z35] 6 (Aw.sreg [0,2,3,4,5,6,53] [0,1,2,3,4,5] ?_)
 obtain ⟨hg1223,hh⟩:=grd_some hh
 refine yjc 5 [(0:Int)≤s5.2.2.2∧s5.2.2.2<(((List.length s7.2.2.1):Nat):Int)] (sp 67 [z7,z10,z11,z21,z28,z36,(33,.ptr 2 [] 1),z26,(35,ii s5.2.2.2),z19,z20]) [z33,z9,z34,z16,z27,z35] 6 (.cons hg1223 .nil) (ys (.load false 1 (.t 37)) (some 38) (op_load (c:=O_53) (xs:=s7.2.2.1) (e:=53) (r:=4) (π:=[]) (o:=0+(Int.toNat s5.2.2.2)*17+14) (i:=(Int.toNat s5.2.2.2)) (off:=14) (v:=.sref 4 [0+(Int.toNat s5.2.2.2)*17+14+0] 0 (List.length (z1.Pages)) 3) len_O_53 kr kr ltn ltn dd kr ?_))
 obtain ⟨hg1222,hh⟩:=grd_some hh
 refine yjc 3 [(0:Int)≤s7.2.2.2∧s7.2.2.2<(((List.length (z1.Pages)):Nat):Int)] (sp 67 [z7,z10,z11,z21,z28,z36,(33,.ptr 2 [] 1),z26,(35,ii s5.2.2.2),z19,z20,(38,.sref 4 [0+(Int.toNat s5.2.2.2)*17+14+0] 0 (List.length (z1.Pages)) 3),(39,ii s7.2.2.2),(40,.ptr 4 [0+(Int.toNat s5.2.2.2)*17+14+0] (0+(Int.toNat s7.2.2.2)*3)),(41,.ptr 4 [0+(Int.toNat s5.2.2.2)*17+14+0] (0+(Int.toNat s7.2.2.2)*3+0))]) [z33,z9,z34,z16,z27,z35] 6 (.cons hg1222 .nil) (ys (.load false 1 (.t 41)) (some 42) (op_load (c:=C_50) (xs:=z1.Pages) (e:=50) (r:=4) (π:=[0+(Int.toNat s5.2.2.2)*17+14+0]) (o:=0+(Int.toNat s7.2.2.2)*3+0) (i:=(Int.toNat s7.2.2.2)) (off:=0) (v:=ii (z3.Frame)) len_C_50 kr (get_fl (e:=53) (e':=50) (sz':=3) (m':=(List.length (z1.Pages))) (cs':=(fl C_50 (z1.Pages))) (c:=O_53) (xs:=s7.2.2.1) (i:=(Int.toNat s5.2.2.2)) (off:=14) len_O_53 kr ltn ltn dd rfl kr) ltn ltn dd kr ?_))
 refine yu 2 [(42,ii (z3.Frame)),(43,bb (decide ((z3.Frame)<(0:Int)))),(44,bb (decide ((z3.Frame)<(0:Int))))] [z33,z9,z34,z16,z27,z35] 6 ?_
 rcases cond_sf hh with ⟨hb,hh⟩ | ⟨hb,hh⟩
 · refine yb 43 hb (yb 44 hb (yt (sp 67 [z7,z10,z11,z21,z28,z36,(53,bb false)]) [z33,z9,z34,z16,z27,z35] 6 (cF rfl (Aw.skip (blk_m ?_)))))
   obtain rfl:=some_some hh
   exact hN8 (s7.1,s7.2.1,s7.2.2.1) _ _ _ hk8 (el [some 0,some 1,some 2,some 3,some 4] (rens_sp kr (rp 0 (rp 1 (rp 2 (ri (ri rl_n)))))) (hq q9 rz (hq ⟨26,[.nil,.nil]⟩ rz (hq q10 rz (hn nr_eI (hn nr_O_53 hs_nil))))))
 refine yb 43 hb (yb 44 hb (yu 5 [(43,bb true),(44,bb true),(45,sw 5 v9),(46,ii (((List.length v9):Nat):Int)),(47,bb (decide ((0:Int)<(((List.length v9):Nat):Int)))),(48,bb (decide ((0:Int)<(((List.length v9):Nat):Int)))),(49,bb (decide ((0:Int)<(((List.length v9):Nat):Int))))] [z33,z9,z34,z16,z27,z35] 6 ?_))
 rcases cond_sf hh with ⟨hb,hh⟩ | ⟨hb,hh⟩
 · refine yb 47 hb (yb 48 hb (yb 49 hb (yt (sp 67 [z7,z10,z11,z21,z28,z36,(53,bb false)]) [z33,z9,z34,z16,z27,z35] 6 (cF rfl (Aw.skip (blk_m ?_))))))
   obtain rfl:=some_some hh
   exact hN8 (s7.1,s7.2.1,s7.2.2.1) _ _ _ hk8 (el [some 0,some 1,some 2,some 3,some 4] (rens_sp kr (rp 0 (rp 1 (rp 2 (ri (ri rl_n)))))) (hq q9 rz (hq ⟨26,[.nil,.nil]⟩ rz (hq q10 rz (hn nr_eI (hn nr_O_53 hs_nil))))))
 refine yb 47 hb (yb 48 hb (yb 49 hb (yu 1 [(47,bb true),(48,bb true),(49,bb true),(50,pp 0)] [z33,z9,z34,z16,z27,z35] 6 ?_)))
 obtain ⟨v10,hv10,hh⟩:=bind_some hh
 let z38:EH:=(0,some ⟨135,(B_135 v10.1)⟩); let z39:=(53,bb (decide ((0:Int)<v10.2)))
 refine yg (.call 90 [(.t 50),(.c (ii 6))]) (some 51) 49 true (op_callf (v':=ii v10.2) (Hp':=[z38]) (n':=6) [0] (__spec_l20Rd__pick_fn hv10) (args':=[pp 0,ii 6]) kr rfl rfl rfl rz rfl (hq q9 rz hs_nil) ren_i rfl (hq ⟨135,(B_135 v10.1)⟩ (rens_same (nr_B_135 _)) hs_nil) rfl ?_)
 refine yt (sp 67 [z7,z10,z11,z21,z28,z36,z39]) [z38,z9,z34,z16,z27,z35] 6 ?_
 rcases cond_sf hh with ⟨hb,hh⟩ | ⟨hb,hh⟩
 · refine cF hb (Aw.skip (blk_m ?_))
   obtain rfl:=some_some hh
   exact hN8 (v10.1.b,v10.1.p,s7.2.2.1) _ _ _ hk8 (el [some 0,some 1,some 2,some 3,some 4] (rens_sp kr (rp 0 (rp 1 (rp 2 (ri (ri rl_n)))))) (hq ⟨135,(B_135 v10.1)⟩ rz (hq ⟨26,[.nil,.nil]⟩ rz (hq q10 rz (hn nr_eI (hn nr_O_53 hs_nil))))))
 refine cT hb (Aw.oregt ?_)
 obtain ⟨hg1221,hh⟩:=grd_some hh
 refine qc (cs:=[(0:Int)≤s5.2.2.2∧s5.2.2.2<(((List.length s7.2.2.1):Nat):Int)]) (E':=(sp 67 [z7,z10,z11,z21,z28,z36,z39,z12,z29,z23,z24,z25])) (pre:=(List.take 5 Lf99_r9)) (L':=(List.drop 5 Lf99_r9)) kr (fun K=>by kernel_rfl) (.cons hg1221 .nil) (qs (.load false 1 (.t 58)) (some 59) (yq_q rfl (op_load (c:=O_53) (xs:=s7.2.2.1) (e:=53) (r:=4) (π:=[]) (o:=0+(Int.toNat s5.2.2.2)*17+14) (i:=(Int.toNat s5.2.2.2)) (off:=14) (v:=.sref 4 [0+(Int.toNat s5.2.2.2)*17+14+0] 0 (List.length (z1.Pages)) 3) len_O_53 kr kr ltn ltn dd kr ?_)))
 obtain ⟨hg1220,hh⟩:=grd_some hh
 refine qc (cs:=[(0:Int)≤(0:Int)∧(0:Int)<(((List.length v9):Nat):Int)]) (E':=(sp 67 [z7,z10,z11,z21,z28,z36,z39,z12,z29,z23,z24,z25,z32,(60,ii s7.2.2.2),(61,sw 5 v9),(62,pp 5)])) (pre:=(List.take 3 (List.drop 6 Lf99_r9))) (L':=(List.drop 9 Lf99_r9)) kr (fun K=>by kernel_rfl) (.cons hg1220 .nil) (qs (.load false 1 (.t 62)) (some 63) (yq_q rfl (op_load (c:=(eI .i64)) (xs:=v9) (e:=3) (r:=5) (π:=[]) (o:=0) (i:=0) (off:=0) (v:=ii (List.getD v9 0 default)) len_eI kr kr ltn ltn dd kr ?_)))
 obtain ⟨hg1219,hh⟩:=grd_some hh
 refine qtt (cs:=[(0:Int)≤s7.2.2.2∧s7.2.2.2<(((List.length (z1.Pages)):Nat):Int)]) (E':=(sp 67 [z7,z10,z11,z21,z28,z36,z39,z12,z29,z23,z24,z25,z32,(60,ii s7.2.2.2),(61,sw 5 v9),(62,pp 5),(63,ii (List.getD v9 0 default)),z37,z30])) (fun K=>by kernel_rfl) (.cons hg1219 .nil) ?_
 let q13:Root:=⟨53,(fl O_53 z6)⟩
 refine ys (.store 3 (.t 65) (.t 64)) none (op_store (c:=C_50) (xs:=z1.Pages) (e:=50) (r:=4) (π:=[0+(Int.toNat s5.2.2.2)*17+14+0]) (o:=0+(Int.toNat s7.2.2.2)*3) (i:=(Int.toNat s7.2.2.2)) (off:=0) (vs:=[ii (List.getD v9 0 default),bb true,bb false]) (y:=z2) (H':=[(4,some q13),z38,z9,z34,z16,z27,z35]) len_C_50 kr kr kr (get_fl (e:=53) (e':=50) (sz':=3) (m':=(List.length (z1.Pages))) (cs':=(fl C_50 (z1.Pages))) (c:=O_53) (xs:=s7.2.2.1) (i:=(Int.toNat s5.2.2.2)) (off:=14) len_O_53 kr ltn ltn dd rfl kr) ltn ltn dd kr (put_fl (e:=53) (e':=50) (sz':=3) (m':=(List.length (z1.Pages))) (cs':=(fl C_50 (z1.Pages))) (ds:=(fl C_50 z4)) (c:=O_53) (xs:=s7.2.2.1) (i:=(Int.toNat s5.2.2.2)) (off:=14) (y:=z5) (m2:=(List.length z4)) len_O_53 kr ltn ltn dd rfl kr eqn kr rfl kr) ?_)
 refine ye (sp 67 [z7,z10,z11,z21,z28,z36,z39,z12,z29,z23,z24,z25,z32,(60,ii s7.2.2.2),(61,sw 5 v9),(62,pp 5),(63,ii (List.getD v9 0 default)),z37,z30]) [(4,some q13),z38,z9,z34,z16,z27,z35] 6 (blk_m ?_)
 obtain rfl:=some_some hh
 exact hN8 (v10.1.b,v10.1.p,z6) _ _ _ hk8 (el [some 0,some 1,some 2,some 3,some 4] (rens_sp kr (rp 0 (rp 1 (rp 2 (ri (ri rl_n)))))) (hq ⟨135,(B_135 v10.1)⟩ rz (hq ⟨26,[.nil,.nil]⟩ rz (hq q10 rz (hn nr_eI (hn nr_O_53 hs_nil))))))
def Lf33_r0:List LOper:=[oo 2 (.fresh 26 [.nil,.nil]),oN 3 0,oN 4 0]
def Lf33_r1:List LOper:=[om 7 0,oK 8 66 [7],om 5 8]
def Lf33_r2:List LOper:=[om 9 5,oK 10 99 [9],oo 6 (.fresh 26 [.nil,.nil]),oS 2 6 10]
def Lf33_r3:List LOper:=[oL 11 2 6,om 12 5,oL 13 2 6,oK 14 85 [12,13],om 15 5,oo 16 (.call 90 [(.t 15),(.c (ii 8))]),om 17 5,oo 18 (.call 90 [(.t 17),(.c (ii 20))]),ob 19 .quo 18 19,oB 20 .add 16 19,oS 2 2 11,om 3 14]
def Lf33_r3t:List LOper:=[om 4 20]
def Lf33:LFun:=⟨21,[(.cell 2 true 2),(.tmp 3),(.tmp 4)],(.seq (.reg false Lf33_r0) (.seq (.reg false Lf33_r1) (.seq (.reg false Lf33_r2) (.seq (.regd Lf33_r3 Lf33_r3t) .ret))))⟩
theorem low_spec_DrawHostFill:lowFun Go.Proofs.Try.prog 33=some Lf33:=by kernel_rfl
noncomputable def F_spec_DrawHostFill (x_code:List Int):Option (DHost × Int × Int) :=
 Option.bind (F_spec_l20Open x_code) fun v1 =>
 Option.bind (F_spec_l20Full v1) fun v2 =>
 Option.bind (F_spec_l20At v2.1 v2.2) fun v3 =>
 grd (List.length v3.2.1=(List.length v2.2.Words)) (grd (List.length v3.2.2.1=(List.length v2.2.Guests)) (Option.bind (F___spec_l20Rd__pick v3.1 (8:Int)) fun v4 =>
  Option.bind (F___spec_l20Rd__pick v4.1 (20:Int)) fun v5 =>
  some ((DHost.mk v3.2.1 v3.2.2.1),v3.2.2.2,(w64 (v4.2+(w64 (Int.tdiv v5.2 (19:Int))))))))
theorem spec_DrawHostFill_fn {x_code:List Int} {R_:DHost × Int × Int} (hh:F_spec_DrawHostFill x_code=some R_):Fn Try.prog 33 [bo (eI .u8) x_code] (.tup [.agg [.own 3 1 (List.length R_.1.Words) (fl (eI .i64) R_.1.Words),.own 53 17 (List.length R_.1.Guests) (fl O_53 R_.1.Guests)],.int .i64 R_.2.1,.int .i64 R_.2.2]):=by
 let z1:EH:=(0,some ⟨26,[.nil,.nil]⟩); let z2:EH:=(1,none); let z3:=(12,pp 1); let z4:=(2,pp 0); let z5:=(5,pp 1); let z6:=(6,pp 4)
 unfold F_spec_DrawHostFill at hh
 refine Fn.start low_spec_DrawHostFill [0] (E:=sp 21 [(0,bo (eI .u8) x_code)]) kr (v:=.tup [.agg [sw 0 R_.1.Words,.sref 1 [] 0 (List.length R_.1.Guests) 17],ii R_.2.1,ii R_.2.2]) (Hr:=[(1,some ⟨53,(fl O_53 R_.1.Guests)⟩),(0,some ⟨3,(fl (eI .i64) R_.1.Words)⟩)]) (k:=2) kr (sy [0,2] [0] (sp 21 [(0,bo (eI .u8) x_code),z4]) [z1] 1 (Aw.sreg [2,5] [0,1] (yu 1 [(7,bo (eI .u8) x_code)] [z1] 1 ?_)))
 obtain ⟨v1,hv1,hh⟩:=bind_some hh
 let z7:EH:=(1,some ⟨135,(B_135 v1)⟩)
 refine ys (.call 66 [(.t 7)]) (some 8) (op_callf (v':=pp 1) (Hp':=[z7]) (n':=2) [] (spec_l20Open_fn hv1) (args':=[bo (eI .u8) x_code]) kr rfl rfl rfl rz rfl hs_nil (ren_p dd rfl) rfl (hq ⟨135,(B_135 v1)⟩ (rens_same (nr_B_135 _)) hs_nil) rfl ?_)
 refine yt (sp 21 [z4,z5]) [z1,z7] 2 (Aw.sreg [2,5,6] [0,1,2,3,4] (yu 1 [(9,pp 1)] [z1,z7] 2 ?_))
 obtain ⟨v2,hv2,hh⟩:=bind_some hh
 let z8:EH:=(1,some ⟨135,(B_135 v2.1)⟩); let z9:EV:=(11,.agg [sw 2 v2.2.Words,.sref 3 [] 0 (List.length v2.2.Guests) 17]); let z10:EV:=(13,.agg [sw 2 v2.2.Words,.sref 3 [] 0 (List.length v2.2.Guests) 17]); let q1:Root:=⟨53,(fl O_53 v2.2.Guests)⟩; let z11:=(3,some q1); let q2:Root:=⟨3,(fl (eI .i64) v2.2.Words)⟩; let z12:=(2,some q2)
 refine ys (.call 99 [(.t 9)]) (some 10) (op_callf (v':=.agg [sw 2 v2.2.Words,.sref 3 [] 0 (List.length v2.2.Guests) 17]) (Hp':=[z11,z12,z8]) (n':=4) [1] (spec_l20Full_fn hv2) (args':=[pp 1]) kr rfl rfl rfl rz rfl (hq ⟨135,(B_135 v1)⟩ (rens_same (nr_B_135 _)) hs_nil) (ren_agg rz) rfl (hn nr_O_53 (hn nr_eI (hq ⟨135,(B_135 v2.1)⟩ (rens_same (nr_B_135 _)) hs_nil))) rfl ?_)
 let q3:Root:=⟨26,[sw 2 v2.2.Words,.sref 3 [] 0 (List.length v2.2.Guests) 17]⟩; let z13:=(4,some q3)
 refine yt (sp 21 [z4,z5,z6]) [z1,z8,z12,z11,z13] 5 (Aw.sregd [2,3,4] [0,2,3] [0,1,2,3] kr (dc (cs:=[]) (E':=(sp 21 [z4,z5,z6,z9,z3,z10])) (H':=[z1,z8,z12,z11,z13]) (n':=5) (fs':=none) (pre:=(List.take 3 Lf33_r3)) (L':=(List.drop 3 Lf33_r3)) kr (fun K=>by kernel_rfl) .nil ?_))
 obtain ⟨v3,hv3,hh⟩:=bind_some hh
 let z14:EH:=(1,some ⟨135,(B_135 v3.1)⟩); let z15:=(14,ii v3.2.2.2); let z16:EH:=(3,some ⟨53,(fl O_53 v3.2.2.1)⟩)
 obtain ⟨hg3,hh⟩:=grd_some hh
 obtain ⟨hg4,hh⟩:=grd_some hh
 let q4:Root:=⟨3,(fl (eI .i64) v3.2.1)⟩; let z17:=(2,some q4)
 refine ds (.call 85 [(.t 12),(.t 13)]) (some 14) (ydo_n rfl (op_callf (v':=ii v3.2.2.2) (Hp':=[z14,z17,z16]) (n':=5) [1,2,3] (spec_l20At_fn hv3) (args':=[pp 1,.agg [sw 2 v2.2.Words,.sref 3 [] 0 (List.length v2.2.Guests) 17]]) kr rfl rfl rfl rz rfl (hn nr_O_53 (hn nr_eI (hq ⟨135,(B_135 v2.1)⟩ (rens_same (nr_B_135 _)) hs_nil))) ren_i rfl (hq ⟨135,(B_135 v3.1)⟩ (rens_same (nr_B_135 _)) (hn nr_eI (hn nr_O_53 hs_nil))) rfl ⟨⟨agr_callf rfl rfl,Hld.un ?_⟩⟩))
 refine dc (cs:=[]) (E':=(sp 21 [z4,z5,z6,z9,z3,z10,z15,(15,pp 1)])) (H':=[z14,z17,z16,z2,(2,none),(3,none),z1,z8,z12,z11,z13]) (n':=5) (fs':=none) (pre:=(List.take 1 (List.drop 4 Lf33_r3))) (L':=(List.drop 5 Lf33_r3)) kr (fun K=>by kernel_rfl) .nil ?_
 obtain ⟨v4,hv4,hh⟩:=bind_some hh
 let z18:EH:=(1,some ⟨135,(B_135 v4.1)⟩)
 refine ds (.call 90 [(.t 15),(.c (ii 8))]) (some 16) (ydo_n rfl (op_callf (v':=ii v4.2) (Hp':=[z18]) (n':=5) [1] (__spec_l20Rd__pick_fn hv4) (args':=[pp 1,ii 8]) kr rfl rfl rfl rz rfl (hq ⟨135,(B_135 v3.1)⟩ (rens_same (nr_B_135 _)) hs_nil) ren_i rfl (hq ⟨135,(B_135 v4.1)⟩ (rens_same (nr_B_135 _)) hs_nil) rfl ⟨⟨agr_callf rfl rfl,Hld.un ?_⟩⟩))
 refine dc (cs:=[]) (E':=(sp 21 [z4,z5,z6,z9,z3,z10,z15,(15,pp 1),(16,ii v4.2),(17,pp 1)])) (H':=[z18,z2,z14,z17,z16,z2,(2,none),(3,none),z1,z8,z12,z11,z13]) (n':=5) (fs':=none) (pre:=(List.take 1 (List.drop 6 Lf33_r3))) (L':=(List.drop 7 Lf33_r3)) kr (fun K=>by kernel_rfl) .nil ?_
 obtain ⟨v5,hv5,hh⟩:=bind_some hh
 let z19:EH:=(1,some ⟨135,(B_135 v5.1)⟩); let z20:=(19,ii (w64 (Int.tdiv v5.2 (19:Int)))); let z21:=(20,ii (w64 (v4.2+(w64 (Int.tdiv v5.2 (19:Int))))))
 refine ds (.call 90 [(.t 17),(.c (ii 20))]) (some 18) (ydo_n rfl (op_callf (v':=ii v5.2) (Hp':=[z19]) (n':=5) [1] (__spec_l20Rd__pick_fn hv5) (args':=[pp 1,ii 20]) kr rfl rfl rfl rz rfl (hq ⟨135,(B_135 v4.1)⟩ (rens_same (nr_B_135 _)) hs_nil) ren_i rfl (hq ⟨135,(B_135 v5.1)⟩ (rens_same (nr_B_135 _)) hs_nil) rfl ⟨⟨agr_callf rfl rfl,Hld.un ?_⟩⟩))
 refine dc (cs:=[(19:Int)≠0]) (E':=(sp 21 [z4,z5,z6,z9,z3,z10,z15,(15,pp 1),(16,ii v4.2),(17,pp 1),(18,ii v5.2),z20,z21])) (H':=[z19,z2,z18,z2,z14,z17,z16,z2,(2,none),(3,none),z1,z8,z12,z11,z13]) (n':=5) (fs':=none) (pre:=(List.take 2 (List.drop 8 Lf33_r3))) (L':=(List.drop 10 Lf33_r3)) kr (fun K=>by kernel_rfl) (.cons dd .nil) (ds (.store 2 (.t 2) (.t 11)) none (ydo_n rfl (op_st (v:=.und) (H':=[(0,some q3),z19,z2,z18,z2,z14,z17,z16,z2,(2,none),(3,none),z1,z8,z12,z11,z13]) (n':=5) (fun K=>by kernel_rfl) ⟨⟨agr_put dd,Hld.un ?_⟩⟩)))
 refine dct (cs:=[]) (E':=(sp 21 [z4,(3,ii v3.2.2.2),z5,z6,z9,z3,z10,z15,(15,pp 1),(16,ii v4.2),(17,pp 1),(18,ii v5.2),z20,z21])) (H':=[(0,some q3),z19,z2,z18,z2,z14,z17,z16,z2,(2,none),(3,none),z1,z8,z12,z11,z13]) (n':=5) (fun K=>by kernel_rfl) .nil (yt (sp 21 [z4,(3,ii v3.2.2.2),(4,ii (w64 (v4.2+(w64 (Int.tdiv v5.2 (19:Int))))))]) [(0,some q3),z17,z16] 5 (Aw.ret ?_))
 rw [some_some hh]
 exact gives (r':=.tup [.agg [sw 2 v2.2.Words,.sref 3 [] 0 (List.length v2.2.Guests) 17],ii v3.2.2.2,ii (w64 (v4.2+(w64 (Int.tdiv v5.2 (19:Int)))))]) kr (Ent.list [some 2,some 3] rfl rfl (Nat.zero_le _) (rens_1 (ren_tup rz)) (hn nr_O_53 (hn nr_eI hs_nil)))
end Go.Proofs.Ytlikfpmbcdlnjaa
