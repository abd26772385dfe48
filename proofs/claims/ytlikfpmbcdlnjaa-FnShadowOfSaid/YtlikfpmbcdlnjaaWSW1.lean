/- Plain functions of the program, and that it hands back what they say. Made by program. -/
import Derived.Test.YtlikfpmbcdlnjaaWT
import Derived.Test.YtlikfpmbcdlnjaaProg
import Derived.Test.YtlikfpmbcdlnjaaWHC1
import Derived.Test.YtlikfpmbcdlnjaaWO1
import Derived.Test.YtlikfpmbcdlnjaaWSO1
namespace Go.Proofs.Ytlikfpmbcdlnjaa
open Go.RowKit
set_option maxRecDepth 100000
set_option linter.all false
set_option maxHeartbeats 0
def Lf98_r0:List LOper:=[oX 3 111 0,oF 6]
def Lf98_r1:List LOper:=[oA 7 0 3,ol 8 7,om 9 8,og 10 (.fadr 1 (.t 3)) 9 true,og 11 (.load false 1 (.t 10)) 9 true,og 12 (.mv (.t 11)) 9 true,og 13 (.mv (.t 2)) 12 false,og 14 (.un .not (.t 13)) 12 false,og 15 (.pick (.t 12) (.c (bb true)) (.t 14)) 9 true,oP 16 9 15,om 17 16,og 18 (.fadr 2 (.t 3)) 17 true,og 19 (.load false 1 (.t 18)) 17 true,og 20 (.mv (.t 19)) 17 true,og 21 (.mv (.t 1)) 20 false,og 22 (.un .not (.t 21)) 20 false,og 23 (.pick (.t 20) (.c (bb true)) (.t 22)) 17 true,oP 24 17 23,om 6 24]
def Lf98:LFun:=⟨25,[(.tmp 6)],(.seq (.reg false Lf98_r0) (.seq (.reg false Lf98_r1) .ret))⟩
theorem low_impl_entryLets:lowFun Go.Proofs.Try.prog 98=some Lf98:=by kernel_rfl
noncomputable def F_impl_entryLets (x_e:DEntry) (x_user:Bool) (x_write:Bool):Option Bool :=
 cond x_e.There
  (cond x_e.Write
   (cond x_e.User
    (some true)
    (some (!x_user)))
   (cond (!x_write)
    (cond x_e.User
     (some true)
     (some (!x_user)))
    (some false)))
  (some false)
theorem impl_entryLets_fn {x_e:DEntry} {x_user:Bool} {x_write:Bool} {R_:Bool} (hh:F_impl_entryLets x_e x_user x_write=some R_):Fn Try.prog 98 [.agg (C_111 x_e),.bool x_user,.bool x_write] (.bool R_):=by
 let z1:EH:=(0,some ⟨111,(C_111 x_e)⟩)
 unfold F_impl_entryLets at hh
 refine Fn.start low_impl_entryLets [0,1,2] (E:=sp 25 [(0,.agg (C_111 x_e)),(1,bb x_user),(2,bb x_write)]) kr (v:=bb R_) (Hr:=[]) (k:=0) kr (sy [1,2,3] [0] (sp 25 [(1,bb x_user),(2,bb x_write),(3,pp 0)]) [z1] 1 (Aw.sreg [6] [] (yu 3 [(7,pp 0),(8,bb x_e.There),(9,bb x_e.There)] [z1] 1 ?_)))
 rcases cond_sf hh with ⟨hb,hh⟩ | ⟨hb,hh⟩
 · exact yb 8 hb (yb 9 hb (yt (sp 25 [(6,bb false)]) [] 1 (Aw.ret (gvbs hh))))
 refine yb 8 hb (yb 9 hb (yu 3 [(8,bb true),(9,bb true),(10,.ptr 0 [] 1),(11,bb x_e.Write),(12,bb x_e.Write)] [z1] 1 ?_))
 rcases cond_some hh with ⟨hb,hh⟩ | ⟨hb,hh⟩
 · refine yb 11 hb (yb 12 hb (yu 8 [(11,bb true),(12,bb true),(13,.und),(14,.und),(15,bb true),(16,bb true),(17,bb true),(18,.ptr 0 [] 2),(19,bb x_e.User),(20,bb x_e.User)] [z1] 1 ?_))
   rcases cond_sf hh with ⟨hb,hh⟩ | ⟨hb,hh⟩
   · exact yb 19 hb (yb 20 hb (yt (sp 25 [(6,bb (!x_user))]) [] 1 (Aw.ret (gvbs hh))))
   exact yb 19 hb (yb 20 hb (yt (sp 25 [(6,bb true)]) [] 1 (Aw.ret (gvbs hh))))
 refine yb 11 hb (yb 12 hb (yu 5 [(11,bb false),(12,bb false),(13,bb x_write),(14,bb (!x_write)),(15,bb (!x_write)),(16,bb (!x_write)),(17,bb (!x_write))] [z1] 1 ?_))
 rcases cond_sf hh with ⟨hb,hh⟩ | ⟨hb,hh⟩
 · exact yb 14 hb (yb 15 hb (yb 16 hb (yb 17 hb (yt (sp 25 [(6,bb false)]) [] 1 (Aw.ret (gvbs hh))))))
 refine yb 14 hb (yb 15 hb (yb 16 hb (yb 17 hb (yu 3 [(14,bb true),(15,bb true),(16,bb true),(17,bb true),(18,.ptr 0 [] 2),(19,bb x_e.User),(20,bb x_e.User)] [z1] 1 ?_))))
 rcases cond_sf hh with ⟨hb,hh⟩ | ⟨hb,hh⟩
 · exact yb 19 hb (yb 20 hb (yt (sp 25 [(6,bb (!x_user))]) [] 1 (Aw.ret (gvbs hh))))
 exact yb 19 hb (yb 20 hb (yt (sp 25 [(6,bb true)]) [] 1 (Aw.ret (gvbs hh))))
def Lf92_r0:List LOper:=[oX 4 48 0,oN 8 0,oN 9 0]
def Lf92_r1:List LOper:=[oA 11 0 4,ol 12 11,oA 13 1 4,ol 14 13,oA 15 2 4,ol 16 15,oA 17 3 4,ol 18 17,oo 19 (.bld [(bb false),(bb false),(bb false),(ii 0)] [(0,(1,(.t 12))),(1,(1,(.t 14))),(2,(1,(.t 16))),(3,(1,(.t 18)))]),oo 10 (.fresh 111 [(bb false),(bb false),(bb false),(ii 0)]),oS 4 10 19]
def Lf92_r2:List LOper:=[oL 20 4 10,om 21 2,om 22 3,oK 23 98 [20,21,22],oU 24 23]
def Lf92_r3:List LOper:=[oN 8 (-1),oN 9 1]
def Lf92_r4:List LOper:=[oA 25 4 4,ol 26 25,ob 27 .eql 26 (-1)]
def Lf92_r5:List LOper:=[oN 8 (-1),oN 9 2]
def Lf92_r6:List LOper:=[om 28 3,om 29 28,og 30 (.fadr 5 (.t 4)) 29 true,og 31 (.load false 1 (.t 30)) 29 true,og 32 (.un .not (.t 31)) 29 true,oP 33 29 32]
def Lf92_r7:List LOper:=[oN 8 (-1),oN 9 3]
def Lf92_r8:List LOper:=[oA 34 4 4,ol 35 34,ob 36 .mul 35 8,om 37 1,ob 38 .rem 37 8,oB 39 .add 36 38,om 8 39,oN 9 0]
def Lf92:LFun:=⟨40,[(.tmp 8),(.tmp 9)],(.seq (.reg false Lf92_r0) (.seq (.reg false Lf92_r1) (.seq (.seq (.reg false Lf92_r2) (.cond (.t 24) (.seq (.reg false Lf92_r3) .ret) .skip)) (.seq (.seq (.reg false Lf92_r4) (.cond (.t 27) (.seq (.reg false Lf92_r5) .ret) .skip)) (.seq (.seq (.reg false Lf92_r6) (.cond (.t 33) (.seq (.reg false Lf92_r7) .ret) .skip)) (.seq (.reg false Lf92_r8) .ret))))))⟩
theorem low_impl_shadeLeads:lowFun Go.Proofs.Try.prog 92=some Lf92:=by kernel_rfl
noncomputable def F_impl_shadeLeads_j2 (x_s:DShade) (x_addr:Int) (s2:Unit):Option (Int × Int) :=
 some ((w64 ((w64 (x_s.Frame*(8:Int)))+(Int.tmod x_addr (8:Int)))),(0:Int))
noncomputable def F_impl_shadeLeads (x_s:DShade) (x_addr:Int) (x_user:Bool) (x_write:Bool):Option (Int × Int) :=
 Option.bind (F_impl_entryLets (DEntry.mk x_s.There x_s.Write x_s.User x_s.Page) x_user x_write) fun v1 =>
 cond (!v1)
  (some ((-1:Int),(1:Int)))
  (cond (decide (x_s.Frame=(-1:Int)))
   (some ((-1:Int),(2:Int)))
   (Option.bind (cond x_write
    (cond (!x_s.Ready)
     (some (.out ((-1:Int),(3:Int))))
     (some (.go ())))
    (some (.go ()))) fun j2 =>
    JO.run j2 (F_impl_shadeLeads_j2 x_s x_addr)))
theorem impl_shadeLeads_fn {x_s:DShade} {x_addr:Int} {x_user:Bool} {x_write:Bool} {R_:Int × Int} (hh:F_impl_shadeLeads x_s x_addr x_user x_write=some R_):Fn Try.prog 92 [.agg (C_48 x_s),.int .i64 x_addr,.bool x_user,.bool x_write] (.tup [.int .i64 R_.1,.int .i64 R_.2]):=by
 let z1:EH:=(0,some ⟨48,(C_48 x_s)⟩); let z2:=(1,ii x_addr); let z3:=(2,bb x_user); let z4:=(27,bb (decide (x_s.Frame=(-1:Int)))); let z5:=(3,bb x_write); let z6:=(4,pp 0)
 unfold F_impl_shadeLeads at hh
 refine Fn.start low_impl_shadeLeads [0,1,2,3] (E:=sp 40 [(0,.agg (C_48 x_s)),z2,z3,z5]) kr (v:=.tup [ii R_.1,ii R_.2]) (Hr:=[]) (k:=0) kr (sy [1,2,3,4] [0] (sp 40 [z2,z3,z5,z6]) [z1] 1 (Aw.sreg [1,2,3,4,10] [0,1] ?_))
 let q1:Root:=⟨111,[bb x_s.There,bb x_s.Write,bb x_s.User,ii x_s.Page]⟩
 refine yt (sp 40 [z2,z3,z5,z6,(10,pp 1)]) [z1,(1,some q1)] 2 (Aw.seq (Aw.sreg [1,3,4,24] [0] (yj 3  (sp 40 [z2,z3,z5,z6,(10,pp 1),(20,.agg [bb x_s.There,bb x_s.Write,bb x_s.User,ii x_s.Page]),(21,bb x_user),(22,bb x_write)]) [z1,(1,some q1)] 2 ?_)))
 obtain ⟨v1,hv1,hh⟩:=bind_some hh
 refine ys (.call 98 [(.t 20),(.t 21),(.t 22)]) (some 23) (oc (impl_entryLets_fn hv1) ?_)
 refine yt (sp 40 [z2,z5,z6,(24,bb (!v1))]) [z1] 2 ?_
 rcases cond_some hh with ⟨hb,hh⟩ | ⟨hb,hh⟩
 · refine cT hb (sy [8,9] [] (sp 40 [(8,ii (-1)),(9,ii 1)]) [] 2 (Aw.ret (then_r ?_)))
   rw [some_some hh]
   exact gives (r':=.tup [ii (-1),ii 1]) kr (Ent.list [] rfl rfl (Nat.zero_le _) (rens_1 (ren_tup rz)) hs_nil)
 refine cF hb (Aw.xskip (fun _ _ _ hq=>then_m hq) (Aw.seq (sy [1,3,4,27] [0] (sp 40 [z2,z5,z6,z4]) [z1] 2 ?_)))
 rcases cond_some hh with ⟨hb,hh⟩ | ⟨hb,hh⟩
 · refine cT hb (sy [8,9] [] (sp 40 [(8,ii (-1)),(9,ii 2)]) [] 2 (Aw.ret (then_r ?_)))
   rw [some_some hh]
   exact gives (r':=.tup [ii (-1),ii 2]) kr (Ent.list [] rfl rfl (Nat.zero_le _) (rens_1 (ren_tup rz)) hs_nil)
 refine cF hb (Aw.xskip (fun _ _ _ hq=>then_m hq) ?_)
 obtain ⟨j2,hh,hk2⟩:=bind_some hh
 refine Aw.join (S:=Unit) (fun s2=>sp 40 [(1,ii x_addr),(4,pp 0)]) (fun s2=>[(0,some ⟨48,(C_48 x_s)⟩)]) 1 (fun s2=>F_impl_shadeLeads_j2 x_s x_addr s2=some R_) ?_ ?_
 · intro s2 hh
   unfold F_impl_shadeLeads_j2 at hh
   refine Aw.sreg [8,9] [] (ytc [(8:Int)≠0] (sp 40 [(8,ii (w64 ((w64 (x_s.Frame*(8:Int)))+(Int.tmod x_addr (8:Int))))),(9,ii 0)]) [] 1 (.cons dd .nil) (Aw.ret ?_))
   rw [some_some hh]
   exact gives (r':=.tup [ii (w64 ((w64 (x_s.Frame*(8:Int)))+(Int.tmod x_addr (8:Int)))),ii 0]) kr (Ent.list [] rfl rfl (Nat.zero_le _) (rens_1 (ren_tup rz)) hs_nil)
 intro Q2 hN2 hR2 hE2
 refine Aw.sreg [1,4,33] [0] (yj 2  (sp 40 [z2,z5,z6,z4,(28,bb x_write),(29,bb x_write)]) [z1] 2 ?_)
 rcases cond_sf hh with ⟨hb,hh⟩ | ⟨hb,hh⟩
 · refine yb 3 hb (yb 28 hb (yb 29 hb (yt (sp 40 [z2,z6,(33,bb false)]) [z1] 2 (cF rfl (Aw.skip ?_)))))
   obtain rfl:=some_some hh
   exact hN2 () _ _ _ hk2 (el [some 0] (rens_sp kr (ri (rp 0 rl_n))) (hq ⟨48,(C_48 x_s)⟩ (rens_same (nr_C_48 _)) hs_nil))
 refine yb 3 hb (yb 28 hb (yb 29 hb (yt (sp 40 [z2,z6,(33,bb (!x_s.Ready))]) [z1] 2 ?_)))
 rcases cond_sf hh with ⟨hb,hh⟩ | ⟨hb,hh⟩
 · refine cF hb (Aw.skip ?_)
   obtain rfl:=some_some hh
   exact hN2 () _ _ _ hk2 (el [some 0] (rens_sp kr (ri (rp 0 rl_n))) (hq ⟨48,(C_48 x_s)⟩ (rens_same (nr_C_48 _)) hs_nil))
 refine cT hb (sy [8,9] [] (sp 40 [(8,ii (-1)),(9,ii 3)]) [] 2 (Aw.ret ?_))
 obtain rfl:=some_some hh
 refine hR2 _ _ _ ?_
 rw [some_some hk2]
 exact gives (r':=.tup [ii (-1),ii 3]) kr (Ent.list [] rfl rfl (Nat.zero_le _) (rens_1 (ren_tup rz)) hs_nil)
def Lf30_r0:List LOper:=[oX 5 26 0,oN 10 0,oN 11 0]
def Lf30_r1:List LOper:=[oL 12 2 5,om 13 1,oK 14 80 [12,13],oU 15 14,om 16 15,og 17 (.mv (.t 2)) 16 false,og 18 (.call 91 [(.t 17)]) 16 false,og 19 (.un .not (.t 18)) 16 false,oQ 20 16 19]
def Lf30_r2:List LOper:=[oN 10 (-1),oN 11 (-1)]
def Lf30_r3:List LOper:=[oL 21 2 5,om 22 1,om 23 2,ob 24 .quo 23 8,oK 25 86 [21,22,24],om 26 2,om 27 3,om 28 4,oK 29 92 [25,26,27,28],oE 30 29 0,oE 31 29 1,om 10 30,om 11 31]
def Lf30:LFun:=⟨32,[(.tmp 10),(.tmp 11)],(.seq (.reg false Lf30_r0) (.seq (.seq (.reg false Lf30_r1) (.cond (.t 20) (.seq (.reg false Lf30_r2) .ret) .skip)) (.seq (.reg false Lf30_r3) .ret)))⟩
theorem low_impl_ShadowWalk:lowFun Go.Proofs.Try.prog 30=some Lf30:=by kernel_rfl
noncomputable def F_impl_ShadowWalk (x_h:DHost) (x_g:Int) (x_addr:Int) (x_user:Bool) (x_write:Bool):Option (Int × Int) :=
 Option.bind (F_impl_hasGuest x_h x_g) fun v1 =>
 cond (!v1)
  (some ((-1:Int),(-1:Int)))
  (Option.bind (F_impl_addressOk x_addr) fun v2 =>
  cond (!v2)
   (some ((-1:Int),(-1:Int)))
   (Option.bind (F_impl_shadeOf x_h x_g (w64 (Int.tdiv x_addr (8:Int)))) fun v3 =>
   Option.bind (F_impl_shadeLeads v3 x_addr x_user x_write) fun v4 =>
   some (v4.1,v4.2)))
theorem impl_ShadowWalk_fn {x_h:DHost} {x_g:Int} {x_addr:Int} {x_user:Bool} {x_write:Bool} {R_:Int × Int} (hh:F_impl_ShadowWalk x_h x_g x_addr x_user x_write=some R_):Fn Try.prog 30 [.agg (B_26 x_h),.int .i64 x_g,.int .i64 x_addr,.bool x_user,.bool x_write] (.tup [.int .i64 R_.1,.int .i64 R_.2]):=by
 let z1:EH:=(0,some ⟨26,(B_26 x_h)⟩); let z2:=(1,ii x_g); let z3:=(2,ii x_addr); let z4:=(3,bb x_user); let z5:=(4,bb x_write)
 unfold F_impl_ShadowWalk at hh
 refine Fn.start low_impl_ShadowWalk [0,1,2,3,4] (E:=sp 32 [(0,.agg (B_26 x_h)),z2,z3,z4,z5]) kr (v:=.tup [ii R_.1,ii R_.2]) (Hr:=[]) (k:=0) kr (sy [1,2,3,4,5] [0] (sp 32 [z2,z3,z4,z5,(5,pp 0)]) [z1] 1 (Aw.seq (Aw.sreg [1,2,3,4,5,20] [0] (yj 2  (sp 32 [z2,z3,z4,z5,(5,pp 0),(12,.agg (B_26 x_h)),(13,ii x_g)]) [z1] 1 ?_))))
 obtain ⟨v1,hv1,hh⟩:=bind_some hh
 refine ys (.call 80 [(.t 12),(.t 13)]) (some 14) (op_call (r:=bb v1) (v:=bb v1) (Hr:=[]) (n':=1) (impl_hasGuest_fn hv1) (clz_v (vs:=[.agg (B_26 x_h),ii x_g]) kr (clz_c (clo_same (clean_agg (cl_B_26 _))) (cz1 clz_n))) rfl rfl kr ?_)
 refine yu 2 [(14,bb v1),(15,bb (!v1)),(16,bb (!v1))] [z1] 1 ?_
 rcases cond_some hh with ⟨hb,hh⟩ | ⟨hb,hh⟩
 · refine yb 15 hb (yb 16 hb (yt (sp 32 [z2,z3,z4,z5,(5,pp 0),(20,bb true)]) [z1] 1 (cT rfl (sy [10,11] [] (sp 32 [(10,ii (-1)),(11,ii (-1))]) [] 1 (Aw.ret (then_r ?_))))))
   rw [some_some hh]
   exact gives (r':=.tup [ii (-1),ii (-1)]) kr (Ent.list [] rfl rfl (Nat.zero_le _) (rens_1 (ren_tup rz)) hs_nil)
 refine yb 15 hb (yb 16 hb (yu 1 [(15,bb false),(16,bb false),(17,ii x_addr)] [z1] 1 ?_))
 obtain ⟨v2,hv2,hh⟩:=bind_some hh
 refine yg (.call 91 [(.t 17)]) (some 18) 16 false (oc (impl_addressOk_fn hv2) ?_)
 refine yt (sp 32 [z2,z3,z4,z5,(5,pp 0),(20,bb (!v2))]) [z1] 1 ?_
 rcases cond_some hh with ⟨hb,hh⟩ | ⟨hb,hh⟩
 · refine cT hb (sy [10,11] [] (sp 32 [(10,ii (-1)),(11,ii (-1))]) [] 1 (Aw.ret (then_r ?_)))
   rw [some_some hh]
   exact gives (r':=.tup [ii (-1),ii (-1)]) kr (Ent.list [] rfl rfl (Nat.zero_le _) (rens_1 (ren_tup rz)) hs_nil)
 refine cF hb (Aw.xskip (fun _ _ _ hq=>then_m hq) (Aw.sreg [10,11] [] (yjc 4 [(8:Int)≠0] (sp 32 [z2,z3,z4,z5,(5,pp 0),(20,bb (!v2)),(21,.agg (B_26 x_h)),(22,ii x_g),(23,ii x_addr),(24,ii (w64 (Int.tdiv x_addr (8:Int))))]) [z1] 1 (.cons dd .nil) ?_)))
 obtain ⟨v3,hv3,hh⟩:=bind_some hh
 refine ys (.call 86 [(.t 21),(.t 22),(.t 24)]) (some 25) (op_call (r:=.agg (C_48 v3)) (v:=.agg (C_48 v3)) (Hr:=[]) (n':=1) (impl_shadeOf_fn hv3) (clz_v (vs:=[.agg (B_26 x_h),ii x_g,ii (w64 (Int.tdiv x_addr (8:Int)))]) kr (clz_c (clo_same (clean_agg (cl_B_26 _))) (cz1 (cz1 clz_n)))) rfl rfl kr ?_)
 refine yu 3 [(25,.agg (C_48 v3)),(26,ii x_addr),(27,bb x_user),(28,bb x_write)] [z1] 1 ?_
 obtain ⟨v4,hv4,hh⟩:=bind_some hh
 refine ys (.call 92 [(.t 25),(.t 26),(.t 27),(.t 28)]) (some 29) (oc (impl_shadeLeads_fn hv4) ?_)
 refine yt (sp 32 [(10,ii v4.1),(11,ii v4.2)]) [] 1 (Aw.ret ?_)
 rw [some_some hh]
 exact gives (r':=.tup [ii v4.1,ii v4.2]) kr (Ent.list [] rfl rfl (Nat.zero_le _) (rens_1 (ren_tup rz)) hs_nil)
def Lf94_r0:List LOper:=[oN 8 0,oN 9 0]
def Lf94_r1:List LOper:=[om 11 0,om 12 1,ob 13 .quo 12 8,oi 14 6 11 13,oL 15 6 14,oo 10 (.fresh 48 [(bb false),(bb false),(bb false),(ii 0),(ii 0),(bb false)]),oS 6 10 15]
def Lf94_r2:List LOper:=[oA 17 0 10,ol 18 17,oU 19 18,om 20 19,og 21 (.mv (.t 3)) 20 false,og 22 (.mv (.t 21)) 20 false,og 23 (.fadr 1 (.t 10)) 22 true,og 24 (.load false 1 (.t 23)) 22 true,og 25 (.un .not (.t 24)) 22 true,og 26 (.pick (.t 22) (.t 25) (.c (bb false))) 20 false,oQ 27 20 26,om 28 27,og 29 (.mv (.t 2)) 28 false,og 30 (.mv (.t 29)) 28 false,og 31 (.fadr 2 (.t 10)) 30 true,og 32 (.load false 1 (.t 31)) 30 true,og 33 (.un .not (.t 32)) 30 true,og 34 (.pick (.t 30) (.t 33) (.c (bb false))) 28 false,oQ 35 28 34,om 16 35]
def Lf94_r3:List LOper:=[oN 8 (-1),oN 9 1]
def Lf94_r4:List LOper:=[oA 37 4 10,ol 38 37,ob 39 .lss 38 0,om 36 39]
def Lf94_r5:List LOper:=[oN 8 (-1),oN 9 2]
def Lf94_r6:List LOper:=[om 41 3,om 42 41,og 43 (.fadr 5 (.t 10)) 42 true,og 44 (.load false 1 (.t 43)) 42 true,og 45 (.un .not (.t 44)) 42 true,oP 46 42 45,om 40 46]
def Lf94_r7:List LOper:=[oN 8 (-1),oN 9 3]
def Lf94_r8:List LOper:=[oA 47 4 10,ol 48 47,ob 49 .mul 48 8,om 50 1,ob 51 .rem 50 8,oB 52 .add 49 51,om 8 52,oN 9 0]
def Lf94:LFun:=⟨53,[(.tmp 8),(.tmp 9)],(.seq (.reg false Lf94_r0) (.seq (.reg false Lf94_r1) (.seq (.block 0 (.seq (.reg false Lf94_r2) (.cond (.t 16) (.seq (.reg false Lf94_r3) .ret) (.seq (.reg false Lf94_r4) (.cond (.t 36) (.seq (.reg false Lf94_r5) .ret) (.seq (.reg false Lf94_r6) (.cond (.t 40) (.seq (.reg false Lf94_r7) .ret) .skip))))))) (.seq (.reg false Lf94_r8) .ret))))⟩
theorem low_spec_l5Place:lowFun Go.Proofs.Try.prog 94=some Lf94:=by kernel_rfl
noncomputable def F_spec_l5Place_j1 (x_table:List DShade) (x_addr:Int) (s1:Unit):Option (Int × Int) :=
 some ((w64 ((w64 (((List.getD x_table (Int.toNat (w64 (Int.tdiv x_addr (8:Int)))) default).Frame)*(8:Int)))+(Int.tmod x_addr (8:Int)))),(0:Int))
noncomputable def F_spec_l5Place (x_table:List DShade) (x_addr:Int) (x_user:Bool) (x_write:Bool):Option (Int × Int) :=
 grd ((0:Int)≤(w64 (Int.tdiv x_addr (8:Int)))∧(w64 (Int.tdiv x_addr (8:Int)))<((List.length x_table:Nat):Int)) (Option.bind (cond (!((List.getD x_table (Int.toNat (w64 (Int.tdiv x_addr (8:Int)))) default).There))
  (some (.out ((-1:Int),(1:Int))))
  (cond x_write
   (cond (!((List.getD x_table (Int.toNat (w64 (Int.tdiv x_addr (8:Int)))) default).Write))
    (some (.out ((-1:Int),(1:Int))))
    (cond x_user
     (cond (!((List.getD x_table (Int.toNat (w64 (Int.tdiv x_addr (8:Int)))) default).User))
      (some (.out ((-1:Int),(1:Int))))
      (cond (decide (((List.getD x_table (Int.toNat (w64 (Int.tdiv x_addr (8:Int)))) default).Frame)<(0:Int)))
       (some (.out ((-1:Int),(2:Int))))
       (cond (!((List.getD x_table (Int.toNat (w64 (Int.tdiv x_addr (8:Int)))) default).Ready))
        (some (.out ((-1:Int),(3:Int))))
        (some (.go ())))))
     (cond (decide (((List.getD x_table (Int.toNat (w64 (Int.tdiv x_addr (8:Int)))) default).Frame)<(0:Int)))
      (some (.out ((-1:Int),(2:Int))))
      (cond (!((List.getD x_table (Int.toNat (w64 (Int.tdiv x_addr (8:Int)))) default).Ready))
       (some (.out ((-1:Int),(3:Int))))
       (some (.go ()))))))
   (cond x_user
    (cond (!((List.getD x_table (Int.toNat (w64 (Int.tdiv x_addr (8:Int)))) default).User))
     (some (.out ((-1:Int),(1:Int))))
     (cond (decide (((List.getD x_table (Int.toNat (w64 (Int.tdiv x_addr (8:Int)))) default).Frame)<(0:Int)))
      (some (.out ((-1:Int),(2:Int))))
      (some (.go ()))))
    (cond (decide (((List.getD x_table (Int.toNat (w64 (Int.tdiv x_addr (8:Int)))) default).Frame)<(0:Int)))
     (some (.out ((-1:Int),(2:Int))))
     (some (.go ())))))) fun j1 =>
  JO.run j1 (F_spec_l5Place_j1 x_table x_addr))
theorem spec_l5Place_fn {x_table:List DShade} {x_addr:Int} {x_user:Bool} {x_write:Bool} {R_:Int × Int} (hh:F_spec_l5Place x_table x_addr x_user x_write=some R_):Fn Try.prog 94 [bo C_48 x_table,.int .i64 x_addr,.bool x_user,.bool x_write] (.tup [.int .i64 R_.1,.int .i64 R_.2]):=by
 let z2:=(0,bo C_48 x_table); let z3:=(1,ii x_addr); let z4:=(10,pp 0); let z5:=(2,bb x_user); let z6:=(3,bb false); let z7:=(3,bb true); let z8:=(3,bb x_write); let z9:=(8,ii (-1)); let z1:=List.getD x_table (Int.toNat (w64 (Int.tdiv x_addr (8:Int)))) default; let z10:=(36,bb (decide ((z1.Frame)<(0:Int))))
 unfold F_spec_l5Place at hh
 refine Fn.start low_spec_l5Place [0,1,2,3] (E:=sp 53 [z2,z3,z5,z8]) kr (v:=.tup [ii R_.1,ii R_.2]) (Hr:=[]) (k:=0) kr (sy [0,1,2,3] [] (sp 53 [z2,z3,z5,z8]) [] 0 (Aw.sreg [1,2,3,10] [0] (yjc 3 [(8:Int)≠0] (sp 53 [z2,z3,z5,z8,(11,bo C_48 x_table),(12,ii x_addr),(13,ii (w64 (Int.tdiv x_addr (8:Int))))]) [] 0 (.cons dd .nil) ?_)))
 obtain ⟨hg2,hh⟩:=grd_some hh
 refine ys (.iadr 6 (.t 11) (.t 13)) (some 14) (op_iadr (kd:=.i64) (c:=C_48) (xs:=x_table) len_C_48 dd kr kr hg2 ?_)
 refine ys (.load true 6 (.t 14)) (some 15) (op_loadbA (c:=C_48) (xs:=x_table) (o:=Int.toNat (w64 (Int.tdiv x_addr (8:Int)))*6) (i:=(Int.toNat (w64 (Int.tdiv x_addr (8:Int))))) (off:=0) (v:=.agg [bb (z1.There),bb (z1.Write),bb (z1.User),ii (z1.Page),ii (z1.Frame),bb (z1.Ready)]) len_C_48 kr ltn ltn dd kr ?_)
 let q1:Root:=⟨48,[bb (z1.There),bb (z1.Write),bb (z1.User),ii (z1.Page),ii (z1.Frame),bb (z1.Ready)]⟩; let z11:=(0,some q1)
 refine yt (sp 53 [z3,z5,z8,z4]) [z11] 1 ?_
 obtain ⟨j1,hh,hk1⟩:=bind_some hh
 refine Aw.join (S:=Unit) (fun s1=>sp 53 [(1,ii x_addr),(10,pp 0)]) (fun s1=>[(0,some ⟨48,[bb ((List.getD x_table (Int.toNat (w64 (Int.tdiv x_addr (8:Int)))) default).There),bb ((List.getD x_table (Int.toNat (w64 (Int.tdiv x_addr (8:Int)))) default).Write),bb ((List.getD x_table (Int.toNat (w64 (Int.tdiv x_addr (8:Int)))) default).User),ii ((List.getD x_table (Int.toNat (w64 (Int.tdiv x_addr (8:Int)))) default).Page),ii ((List.getD x_table (Int.toNat (w64 (Int.tdiv x_addr (8:Int)))) default).Frame),bb ((List.getD x_table (Int.toNat (w64 (Int.tdiv x_addr (8:Int)))) default).Ready)]⟩)]) 1 (fun s1=>F_spec_l5Place_j1 x_table x_addr s1=some R_) ?_ ?_
 · intro s1 hh
   unfold F_spec_l5Place_j1 at hh
   refine Aw.sreg [8,9] [] (ytc [(8:Int)≠0] (sp 53 [(8,ii (w64 ((w64 ((z1.Frame)*(8:Int)))+(Int.tmod x_addr (8:Int))))),(9,ii 0)]) [] 1 (.cons dd .nil) (Aw.ret ?_))
   rw [some_some hh]
   exact gives (r':=.tup [ii (w64 ((w64 ((z1.Frame)*(8:Int)))+(Int.tmod x_addr (8:Int)))),ii 0]) kr (Ent.list [] rfl rfl (Nat.zero_le _) (rens_1 (ren_tup rz)) hs_nil)
 intro Q1 hN1 hR1 hE1
 refine Aw.block (Aw.sreg [1,3,10,16] [0] (yj 4  (sp 53 [z3,z5,z8,z4,(17,pp 0),(18,bb (z1.There)),(19,bb (!(z1.There))),(20,bb (!(z1.There)))]) [z11] 1 ?_))
 rcases cond_some hh with ⟨hb,hh⟩ | ⟨hb,hh⟩
 · refine yb 19 hb (yb 20 hb (yt (sp 53 [z3,z8,z4,(16,bb true)]) [z11] 1 (cT rfl (sy [8,9] [] (sp 53 [z9,(9,ii 1)]) [] 1 (Aw.ret (blk_r ?_))))))
   obtain rfl:=some_some hh
   refine hR1 _ _ _ ?_
   rw [some_some hk1]
   exact gives (r':=.tup [ii (-1),ii 1]) kr (Ent.list [] rfl rfl (Nat.zero_le _) (rens_1 (ren_tup rz)) hs_nil)
 refine yb 19 hb (yb 20 hb (yu 2 [(19,bb false),(20,bb false),(21,bb x_write),(22,bb x_write)] [z11] 1 ?_))
 rcases cond_sf hh with ⟨hb,hh⟩ | ⟨hb,hh⟩
 · refine yb 3 hb (yb 21 hb (yb 22 hb (yu 8 [z6,(21,bb false),(22,bb false),(23,.und),(24,.und),(25,.und),(26,bb false),(27,bb false),(28,bb false),(29,bb x_user),(30,bb x_user)] [z11] 1 ?_)))
   rcases cond_sf hh with ⟨hb,hh⟩ | ⟨hb,hh⟩
   · refine yb 2 hb (yb 29 hb (yb 30 hb (yt (sp 53 [z3,z6,z4,(16,bb false)]) [z11] 1 (cF rfl (sy [1,3,10,36] [0] (sp 53 [z3,z6,z4,z10]) [z11] 1 ?_)))))
     rcases cond_sf hh with ⟨hb,hh⟩ | ⟨hb,hh⟩
     · refine cF hb (sy [1,10,40] [0] (sp 53 [z3,z4,(40,bb false)]) [z11] 1 (cF rfl (Aw.skip (blk_m ?_))))
       obtain rfl:=some_some hh
       exact hN1 () _ _ _ hk1 (el [some 0] (rens_sp kr (ri (rp 0 rl_n))) (hq q1 rz hs_nil))
     refine cT hb (sy [8,9] [] (sp 53 [z9,(9,ii 2)]) [] 1 (Aw.ret (blk_r ?_)))
     obtain rfl:=some_some hh
     refine hR1 _ _ _ ?_
     rw [some_some hk1]
     exact gives (r':=.tup [ii (-1),ii 2]) kr (Ent.list [] rfl rfl (Nat.zero_le _) (rens_1 (ren_tup rz)) hs_nil)
   refine yb 2 hb (yb 29 hb (yb 30 hb (yt (sp 53 [z3,z6,z4,(16,bb (!(z1.User)))]) [z11] 1 ?_)))
   rcases cond_some hh with ⟨hb,hh⟩ | ⟨hb,hh⟩
   · refine cT hb (sy [8,9] [] (sp 53 [z9,(9,ii 1)]) [] 1 (Aw.ret (blk_r ?_)))
     obtain rfl:=some_some hh
     refine hR1 _ _ _ ?_
     rw [some_some hk1]
     exact gives (r':=.tup [ii (-1),ii 1]) kr (Ent.list [] rfl rfl (Nat.zero_le _) (rens_1 (ren_tup rz)) hs_nil)
   refine cF hb (sy [1,3,10,36] [0] (sp 53 [z3,z6,z4,z10]) [z11] 1 ?_)
   rcases cond_sf hh with ⟨hb,hh⟩ | ⟨hb,hh⟩
   · refine cF hb (sy [1,10,40] [0] (sp 53 [z3,z4,(40,bb false)]) [z11] 1 (cF rfl (Aw.skip (blk_m ?_))))
     obtain rfl:=some_some hh
     exact hN1 () _ _ _ hk1 (el [some 0] (rens_sp kr (ri (rp 0 rl_n))) (hq q1 rz hs_nil))
   refine cT hb (sy [8,9] [] (sp 53 [z9,(9,ii 2)]) [] 1 (Aw.ret (blk_r ?_)))
   obtain rfl:=some_some hh
   refine hR1 _ _ _ ?_
   rw [some_some hk1]
   exact gives (r':=.tup [ii (-1),ii 2]) kr (Ent.list [] rfl rfl (Nat.zero_le _) (rens_1 (ren_tup rz)) hs_nil)
 refine yb 3 hb (yb 21 hb (yb 22 hb (yu 6 [z7,(21,bb true),(22,bb true),(23,.ptr 0 [] 1),(24,bb (z1.Write)),(25,bb (!(z1.Write))),(26,bb (!(z1.Write))),(27,bb (!(z1.Write))),(28,bb (!(z1.Write)))] [z11] 1 ?_)))
 rcases cond_some hh with ⟨hb,hh⟩ | ⟨hb,hh⟩
 · refine yb 25 hb (yb 26 hb (yb 27 hb (yb 28 hb (yt (sp 53 [z3,z7,z4,(16,bb true)]) [z11] 1 (cT rfl (sy [8,9] [] (sp 53 [z9,(9,ii 1)]) [] 1 (Aw.ret (blk_r ?_))))))))
   obtain rfl:=some_some hh
   refine hR1 _ _ _ ?_
   rw [some_some hk1]
   exact gives (r':=.tup [ii (-1),ii 1]) kr (Ent.list [] rfl rfl (Nat.zero_le _) (rens_1 (ren_tup rz)) hs_nil)
 refine yb 25 hb (yb 26 hb (yb 27 hb (yb 28 hb (yu 2 [(25,bb false),(26,bb false),(27,bb false),(28,bb false),(29,bb x_user),(30,bb x_user)] [z11] 1 ?_))))
 rcases cond_sf hh with ⟨hb,hh⟩ | ⟨hb,hh⟩
 · refine yb 2 hb (yb 29 hb (yb 30 hb (yt (sp 53 [z3,z7,z4,(16,bb false)]) [z11] 1 (cF rfl (sy [1,3,10,36] [0] (sp 53 [z3,z7,z4,z10]) [z11] 1 ?_)))))
   rcases cond_some hh with ⟨hb,hh⟩ | ⟨hb,hh⟩
   · refine cT hb (sy [8,9] [] (sp 53 [z9,(9,ii 2)]) [] 1 (Aw.ret (blk_r ?_)))
     obtain rfl:=some_some hh
     refine hR1 _ _ _ ?_
     rw [some_some hk1]
     exact gives (r':=.tup [ii (-1),ii 2]) kr (Ent.list [] rfl rfl (Nat.zero_le _) (rens_1 (ren_tup rz)) hs_nil)
   refine cF hb (sy [1,10,40] [0] (sp 53 [z3,z4,(40,bb (!(z1.Ready)))]) [z11] 1 ?_)
   rcases cond_sf hh with ⟨hb,hh⟩ | ⟨hb,hh⟩
   · refine cF hb (Aw.skip (blk_m ?_))
     obtain rfl:=some_some hh
     exact hN1 () _ _ _ hk1 (el [some 0] (rens_sp kr (ri (rp 0 rl_n))) (hq q1 rz hs_nil))
   refine cT hb (sy [8,9] [] (sp 53 [z9,(9,ii 3)]) [] 1 (Aw.ret (blk_r ?_)))
   obtain rfl:=some_some hh
   refine hR1 _ _ _ ?_
   rw [some_some hk1]
   exact gives (r':=.tup [ii (-1),ii 3]) kr (Ent.list [] rfl rfl (Nat.zero_le _) (rens_1 (ren_tup rz)) hs_nil)
 refine yb 2 hb (yb 29 hb (yb 30 hb (yt (sp 53 [z3,z7,z4,(16,bb (!(z1.User)))]) [z11] 1 ?_)))
 rcases cond_some hh with ⟨hb,hh⟩ | ⟨hb,hh⟩
 · refine cT hb (sy [8,9] [] (sp 53 [z9,(9,ii 1)]) [] 1 (Aw.ret (blk_r ?_)))
   obtain rfl:=some_some hh
   refine hR1 _ _ _ ?_
   rw [some_some hk1]
   exact gives (r':=.tup [ii (-1),ii 1]) kr (Ent.list [] rfl rfl (Nat.zero_le _) (rens_1 (ren_tup rz)) hs_nil)
 refine cF hb (sy [1,3,10,36] [0] (sp 53 [z3,z7,z4,z10]) [z11] 1 ?_)
 rcases cond_some hh with ⟨hb,hh⟩ | ⟨hb,hh⟩
 · refine cT hb (sy [8,9] [] (sp 53 [z9,(9,ii 2)]) [] 1 (Aw.ret (blk_r ?_)))
   obtain rfl:=some_some hh
   refine hR1 _ _ _ ?_
   rw [some_some hk1]
   exact gives (r':=.tup [ii (-1),ii 2]) kr (Ent.list [] rfl rfl (Nat.zero_le _) (rens_1 (ren_tup rz)) hs_nil)
 refine cF hb (sy [1,10,40] [0] (sp 53 [z3,z4,(40,bb (!(z1.Ready)))]) [z11] 1 ?_)
 rcases cond_sf hh with ⟨hb,hh⟩ | ⟨hb,hh⟩
 · refine cF hb (Aw.skip (blk_m ?_))
   obtain rfl:=some_some hh
   exact hN1 () _ _ _ hk1 (el [some 0] (rens_sp kr (ri (rp 0 rl_n))) (hq q1 rz hs_nil))
 refine cT hb (sy [8,9] [] (sp 53 [z9,(9,ii 3)]) [] 1 (Aw.ret (blk_r ?_)))
 obtain rfl:=some_some hh
 refine hR1 _ _ _ ?_
 rw [some_some hk1]
 exact gives (r':=.tup [ii (-1),ii 3]) kr (Ent.list [] rfl rfl (Nat.zero_le _) (rens_1 (ren_tup rz)) hs_nil)
def Lf31_r0:List LOper:=[oX 5 26 0,oN 10 0,oN 11 0]
def Lf31_r1:List LOper:=[oL 12 2 5,om 13 1,oK 14 87 [12,13],oU 15 14,om 16 15,og 17 (.mv (.t 2)) 16 false,og 18 (.call 93 [(.t 17),(.c (ii 0)),(.c (ii 63))]) 16 false,og 19 (.un .not (.t 18)) 16 false,oQ 20 16 19]
def Lf31_r2:List LOper:=[oN 10 (-1),oN 11 (-1)]
def Lf31_r3:List LOper:=[oL 21 2 5,om 22 1,oK 23 28 [21,22],om 24 2,om 25 3,om 26 4,oK 27 94 [23,24,25,26],oE 28 27 0,oE 29 27 1,om 10 28,om 11 29]
def Lf31:LFun:=⟨30,[(.tmp 10),(.tmp 11)],(.seq (.reg false Lf31_r0) (.seq (.seq (.reg false Lf31_r1) (.cond (.t 20) (.seq (.reg false Lf31_r2) .ret) .skip)) (.seq (.reg false Lf31_r3) .ret)))⟩
theorem low_spec_ShadowWalk:lowFun Go.Proofs.Try.prog 31=some Lf31:=by kernel_rfl
noncomputable def F_spec_ShadowWalk (x_h:DHost) (x_g:Int) (x_addr:Int) (x_user:Bool) (x_write:Bool):Option (Int × Int) :=
 Option.bind (F_spec_l4Live x_h x_g) fun v1 =>
 cond (!v1)
  (some ((-1:Int),(-1:Int)))
  (Option.bind (F_spec_l1In x_addr (0:Int) (63:Int)) fun v2 =>
  cond (!v2)
   (some ((-1:Int),(-1:Int)))
   (Option.bind (F_spec_ShadowOf x_h x_g) fun v3 =>
   Option.bind (F_spec_l5Place v3 x_addr x_user x_write) fun v4 =>
   some (v4.1,v4.2)))
theorem spec_ShadowWalk_fn {x_h:DHost} {x_g:Int} {x_addr:Int} {x_user:Bool} {x_write:Bool} {R_:Int × Int} (hh:F_spec_ShadowWalk x_h x_g x_addr x_user x_write=some R_):Fn Try.prog 31 [.agg (B_26 x_h),.int .i64 x_g,.int .i64 x_addr,.bool x_user,.bool x_write] (.tup [.int .i64 R_.1,.int .i64 R_.2]):=by
 let z1:EH:=(0,some ⟨26,(B_26 x_h)⟩); let z2:=(1,ii x_g); let z3:=(2,ii x_addr); let z4:=(3,bb x_user); let z5:=(4,bb x_write)
 unfold F_spec_ShadowWalk at hh
 refine Fn.start low_spec_ShadowWalk [0,1,2,3,4] (E:=sp 30 [(0,.agg (B_26 x_h)),z2,z3,z4,z5]) kr (v:=.tup [ii R_.1,ii R_.2]) (Hr:=[]) (k:=0) kr (sy [1,2,3,4,5] [0] (sp 30 [z2,z3,z4,z5,(5,pp 0)]) [z1] 1 (Aw.seq (Aw.sreg [1,2,3,4,5,20] [0] (yj 2  (sp 30 [z2,z3,z4,z5,(5,pp 0),(12,.agg (B_26 x_h)),(13,ii x_g)]) [z1] 1 ?_))))
 obtain ⟨v1,hv1,hh⟩:=bind_some hh
 refine ys (.call 87 [(.t 12),(.t 13)]) (some 14) (op_call (r:=bb v1) (v:=bb v1) (Hr:=[]) (n':=1) (spec_l4Live_fn hv1) (clz_v (vs:=[.agg (B_26 x_h),ii x_g]) kr (clz_c (clo_same (clean_agg (cl_B_26 _))) (cz1 clz_n))) rfl rfl kr ?_)
 refine yu 2 [(14,bb v1),(15,bb (!v1)),(16,bb (!v1))] [z1] 1 ?_
 rcases cond_some hh with ⟨hb,hh⟩ | ⟨hb,hh⟩
 · refine yb 15 hb (yb 16 hb (yt (sp 30 [z2,z3,z4,z5,(5,pp 0),(20,bb true)]) [z1] 1 (cT rfl (sy [10,11] [] (sp 30 [(10,ii (-1)),(11,ii (-1))]) [] 1 (Aw.ret (then_r ?_))))))
   rw [some_some hh]
   exact gives (r':=.tup [ii (-1),ii (-1)]) kr (Ent.list [] rfl rfl (Nat.zero_le _) (rens_1 (ren_tup rz)) hs_nil)
 refine yb 15 hb (yb 16 hb (yu 1 [(15,bb false),(16,bb false),(17,ii x_addr)] [z1] 1 ?_))
 obtain ⟨v2,hv2,hh⟩:=bind_some hh
 refine yg (.call 93 [(.t 17),(.c (ii 0)),(.c (ii 63))]) (some 18) 16 false (oc (spec_l1In_fn hv2) ?_)
 refine yt (sp 30 [z2,z3,z4,z5,(5,pp 0),(20,bb (!v2))]) [z1] 1 ?_
 rcases cond_some hh with ⟨hb,hh⟩ | ⟨hb,hh⟩
 · refine cT hb (sy [10,11] [] (sp 30 [(10,ii (-1)),(11,ii (-1))]) [] 1 (Aw.ret (then_r ?_)))
   rw [some_some hh]
   exact gives (r':=.tup [ii (-1),ii (-1)]) kr (Ent.list [] rfl rfl (Nat.zero_le _) (rens_1 (ren_tup rz)) hs_nil)
 refine cF hb (Aw.xskip (fun _ _ _ hq=>then_m hq) (Aw.sreg [10,11] [] (yj 2  (sp 30 [z2,z3,z4,z5,(5,pp 0),(20,bb (!v2)),(21,.agg (B_26 x_h)),(22,ii x_g)]) [z1] 1 ?_)))
 obtain ⟨v3,hv3,hh⟩:=bind_some hh
 refine ys (.call 28 [(.t 21),(.t 22)]) (some 23) (op_call (r:=.own 48 6 (List.length v3) (fl C_48 v3)) (v:=.sref 1 [] 0 (List.length v3) 6) (Hr:=[(1,some ⟨48,(fl C_48 v3)⟩)]) (n':=2) (spec_ShadowOf_fn hv3) (clz_v (vs:=[.agg (B_26 x_h),ii x_g]) kr (clz_c (clo_same (clean_agg (cl_B_26 _))) (cz1 clz_n))) (by simp only [AV.noRef,noRefs,Bool.and_self,noRefs_fl nr_C_48]) (by simp only [AV.noBor,noBors,Bool.and_self,noBors_fl nb_C_48]) kr ?_)
 refine yu 3 [(23,.sref 1 [] 0 (List.length v3) 6),(24,ii x_addr),(25,bb x_user),(26,bb x_write)] [(1,some ⟨48,(fl C_48 v3)⟩),z1] 2 ?_
 obtain ⟨v4,hv4,hh⟩:=bind_some hh
 refine ys (.call 94 [(.t 23),(.t 24),(.t 25),(.t 26)]) (some 27) (op_call (r:=.tup [ii v4.1,ii v4.2]) (v:=.tup [ii v4.1,ii v4.2]) (Hr:=[]) (n':=2) (spec_l5Place_fn hv4) (clz_v (vs:=[.sref 1 [] 0 (List.length v3) 6,ii x_addr,bb x_user,bb x_write]) kr (clz_c (clo_own (c:=C_48) (xs:=v3) (e:=48) eqn len_C_48 no_C_48 cl_C_48 kr) (cz1 (cz1 (cz1 clz_n))))) rfl rfl kr ?_)
 refine yt (sp 30 [(10,ii v4.1),(11,ii v4.2)]) [] 2 (Aw.ret ?_)
 rw [some_some hh]
 exact gives (r':=.tup [ii v4.1,ii v4.2]) kr (Ent.list [] rfl rfl (Nat.zero_le _) (rens_1 (ren_tup rz)) hs_nil)
end Go.Proofs.Ytlikfpmbcdlnjaa
