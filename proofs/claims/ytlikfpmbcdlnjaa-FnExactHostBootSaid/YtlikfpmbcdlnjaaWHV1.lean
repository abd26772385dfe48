/- Plain functions of the program, and that it hands back what they say. Made by program. -/
import Derived.Test.YtlikfpmbcdlnjaaWT
import Derived.Test.YtlikfpmbcdlnjaaProg
import Derived.Test.YtlikfpmbcdlnjaaWHC1
namespace Go.Proofs.Ytlikfpmbcdlnjaa
open Go.RowKit
set_option maxRecDepth 100000
set_option linter.all false
set_option maxHeartbeats 0
def Lf72_r0:List LOper:=[oX 1 30 0,oo 2 (.fresh 30 zc1)]
def Lf72_r1:List LOper:=[oA 3 0 1,oA 4 0 3,ol 5 4,oK 6 124 [5],oA 7 0 1,oA 8 0 7,oS 1 8 6]
def Lf72_r2:List LOper:=[oA 9 13 1,ol 10 9,oK 11 124 [10],oA 12 13 1,oS 1 12 11]
def Lf72_r3:List LOper:=[oA 13 14 1,ol 14 13,oK 15 124 [14],oA 16 14 1,oS 1 16 15]
def Lf72_r4:List LOper:=[oA 17 15 1,ol 18 17,oK 19 124 [18],oA 20 15 1,oS 1 20 19]
def Lf72_r5:List LOper:=[oL 21 16 1,oS 16 2 21]
def Lf72:LFun:=⟨22,[(.cell 2 true 16)],(.seq (.reg false Lf72_r0) (.seq (.reg false Lf72_r1) (.seq (.reg false Lf72_r2) (.seq (.reg false Lf72_r3) (.seq (.reg false Lf72_r4) (.seq (.reg false Lf72_r5) .ret))))))⟩
theorem low_impl_copiedBare:lowFun Go.Proofs.Try.prog 72=some Lf72:=by kernel_rfl
noncomputable def F_impl_copiedBare (x_b:DBare):Option DBare :=
 Option.bind (F_impl_copied x_b.C.Regs) fun v1 =>
 Option.bind (F_impl_copied x_b.Mem) fun v2 =>
 Option.bind (F_impl_copied x_b.In) fun v3 =>
 Option.bind (F_impl_copied x_b.Out) fun v4 =>
 some (DBare.mk (DCore.mk v1 x_b.C.Pc x_b.C.Root x_b.C.Vector x_b.C.Saved x_b.C.SavedUser x_b.C.Cause x_b.C.Bad x_b.C.Timer x_b.C.Waits x_b.C.User x_b.C.On x_b.C.Stopped) v2 v3 v4)
theorem impl_copiedBare_fn {x_b:DBare} {R_:DBare} (hh:F_impl_copiedBare x_b=some R_):Fn Try.prog 72 [.agg (B_30 x_b)] (.agg (.own 3 1 (List.length R_.C.Regs) (fl (eI .i64) R_.C.Regs)::ru28 R_.C [.own 3 1 (List.length R_.Mem) (fl (eI .i64) R_.Mem),.own 3 1 (List.length R_.In) (fl (eI .i64) R_.In),.own 3 1 (List.length R_.Out) (fl (eI .i64) R_.Out)])):=by
 let z1:=(2,pp 1)
 unfold F_impl_copiedBare at hh
 refine Fn.start low_impl_copiedBare [0] (E:=sp 22 [(0,.agg (B_30 x_b))]) kr (v:=.agg (sw 0 R_.C.Regs::ru28 R_.C [sw 1 R_.Mem,sw 2 R_.In,sw 3 R_.Out])) (Hr:=[(3,some ⟨3,(fl (eI .i64) R_.Out)⟩),(2,some ⟨3,(fl (eI .i64) R_.In)⟩),(1,some ⟨3,(fl (eI .i64) R_.Mem)⟩),(0,some ⟨3,(fl (eI .i64) R_.C.Regs)⟩)]) (k:=4) kr (Aw.sreg [1,2] [0,1] ?_)
 let q1:Root:=⟨30,(.nil::zru28 [.nil,.nil,.nil])⟩; let z2:=(1,some q1)
 refine yt (sp 22 [(1,pp 0),z1]) [(0,some ⟨30,(B_30 x_b)⟩),z2] 2 (Aw.sreg [1,2] [0,1,2] (yu 3 [(3,pp 0),(4,pp 0),(5,bo (eI .i64) x_b.C.Regs)] [(0,some ⟨30,(B_30 x_b)⟩),z2] 2 ?_))
 obtain ⟨v1,hv1,hh⟩:=bind_some hh
 let z3:EH:=(2,some ⟨3,(fl (eI .i64) v1)⟩)
 refine ys (.call 124 [(.t 5)]) (some 6) (op_call (r:=.own 3 1 (List.length v1) (fl (eI .i64) v1)) (v:=sw 2 v1) (Hr:=[z3]) (n':=3) (impl_copied_fn hv1) (clz_v (vs:=[bo (eI .i64) x_b.C.Regs]) kr (clz_c (clo_same (clean_bor (cleans_fl cl_eI))) clz_n)) (by simp only [AV.noRef,noRefs,Bool.and_self,noRefs_fl nr_eI]) (by simp only [AV.noBor,noBors,Bool.and_self,noBors_fl nb_eI]) kr ?_)
 let q2:Root:=⟨30,(sw 2 v1::ru28 x_b.C [bo (eI .i64) x_b.Mem,bo (eI .i64) x_b.In,bo (eI .i64) x_b.Out])⟩
 refine yt (sp 22 [(1,pp 0),z1]) [(0,some q2),z2,z3] 3 (Aw.sreg [1,2] [0,1,2,3] (yu 2 [(9,.ptr 0 [] 13),(10,bo (eI .i64) x_b.Mem)] [(0,some q2),z2,z3] 3 ?_))
 obtain ⟨v2,hv2,hh⟩:=bind_some hh
 let z4:EH:=(3,some ⟨3,(fl (eI .i64) v2)⟩)
 refine ys (.call 124 [(.t 10)]) (some 11) (op_call (r:=.own 3 1 (List.length v2) (fl (eI .i64) v2)) (v:=sw 3 v2) (Hr:=[z4]) (n':=4) (impl_copied_fn hv2) (clz_v (vs:=[bo (eI .i64) x_b.Mem]) kr (clz_c (clo_same (clean_bor (cleans_fl cl_eI))) clz_n)) (by simp only [AV.noRef,noRefs,Bool.and_self,noRefs_fl nr_eI]) (by simp only [AV.noBor,noBors,Bool.and_self,noBors_fl nb_eI]) kr ?_)
 let q3:Root:=⟨30,(sw 2 v1::ru28 x_b.C [sw 3 v2,bo (eI .i64) x_b.In,bo (eI .i64) x_b.Out])⟩
 refine yt (sp 22 [(1,pp 0),z1]) [(0,some q3),z2,z3,z4] 4 (Aw.sreg [1,2] [0,1,2,3,4] (yu 2 [(13,.ptr 0 [] 14),(14,bo (eI .i64) x_b.In)] [(0,some q3),z2,z3,z4] 4 ?_))
 obtain ⟨v3,hv3,hh⟩:=bind_some hh
 let z5:EH:=(4,some ⟨3,(fl (eI .i64) v3)⟩)
 refine ys (.call 124 [(.t 14)]) (some 15) (op_call (r:=.own 3 1 (List.length v3) (fl (eI .i64) v3)) (v:=sw 4 v3) (Hr:=[z5]) (n':=5) (impl_copied_fn hv3) (clz_v (vs:=[bo (eI .i64) x_b.In]) kr (clz_c (clo_same (clean_bor (cleans_fl cl_eI))) clz_n)) (by simp only [AV.noRef,noRefs,Bool.and_self,noRefs_fl nr_eI]) (by simp only [AV.noBor,noBors,Bool.and_self,noBors_fl nb_eI]) kr ?_)
 let q4:Root:=⟨30,(sw 2 v1::ru28 x_b.C [sw 3 v2,sw 4 v3,bo (eI .i64) x_b.Out])⟩
 refine yt (sp 22 [(1,pp 0),z1]) [(0,some q4),z2,z3,z4,z5] 5 (Aw.sreg [1,2] [0,1,2,3,4,5] (yu 2 [(17,.ptr 0 [] 15),(18,bo (eI .i64) x_b.Out)] [(0,some q4),z2,z3,z4,z5] 5 ?_))
 obtain ⟨v4,hv4,hh⟩:=bind_some hh
 let z6:EH:=(5,some ⟨3,(fl (eI .i64) v4)⟩)
 refine ys (.call 124 [(.t 18)]) (some 19) (op_call (r:=.own 3 1 (List.length v4) (fl (eI .i64) v4)) (v:=sw 5 v4) (Hr:=[z6]) (n':=6) (impl_copied_fn hv4) (clz_v (vs:=[bo (eI .i64) x_b.Out]) kr (clz_c (clo_same (clean_bor (cleans_fl cl_eI))) clz_n)) (by simp only [AV.noRef,noRefs,Bool.and_self,noRefs_fl nr_eI]) (by simp only [AV.noBor,noBors,Bool.and_self,noBors_fl nb_eI]) kr ?_)
 let q5:Root:=⟨30,(sw 2 v1::ru28 x_b.C [sw 3 v2,sw 4 v3,sw 5 v4])⟩
 refine yt (sp 22 [(1,pp 0),z1]) [(0,some q5),z2,z3,z4,z5,z6] 6 (sy [2] [1,2,3,4,5] (sp 22 [z1]) [(1,some q5),z3,z4,z5,z6] 6 (Aw.ret ?_))
 rw [some_some hh]
 exact gives (r':=.agg (sw 2 v1::ru28 x_b.C [sw 3 v2,sw 4 v3,sw 5 v4])) kr (Ent.list [some 2,some 3,some 4,some 5] rfl rfl (Nat.zero_le _) (rens_1 (ren_agg rz)) (hn nr_eI (hn nr_eI (hn nr_eI (hn nr_eI hs_nil)))))
def Lf134_r0:List LOper:=[oo 4 (.mv (.c .nil))]
def Lf134_r1:List LOper:=[om 5 0,om 6 1,ob 7 .mul 6 8,om 8 1,ob 9 .add 8 1,ob 10 .mul 9 8,oo 11 (.slc 1 (.t 5) (some (.t 7)) (some (.t 10))),om 4 11]
def Lf134:LFun:=⟨12,[(.tmp 4)],(.seq (.reg false Lf134_r0) (.seq (.reg false Lf134_r1) .ret))⟩
theorem low_impl_pageOf:lowFun Go.Proofs.Try.prog 134=some Lf134:=by kernel_rfl
noncomputable def F_impl_pageOf (x_words:List Int) (x_page:Int):Option (List Int) :=
 grd ((0:Int)≤(w64 (x_page*(8:Int)))∧(w64 (x_page*(8:Int)))≤(w64 ((w64 (x_page+(1:Int)))*(8:Int)))∧(w64 ((w64 (x_page+(1:Int)))*(8:Int)))≤((List.length x_words:Nat):Int)) (some (List.take (Int.toNat (w64 ((w64 (x_page+(1:Int)))*(8:Int))) - Int.toNat (w64 (x_page*(8:Int)))) (List.drop (Int.toNat (w64 (x_page*(8:Int)))) x_words)))
theorem impl_pageOf_fn {x_words:List Int} {x_page:Int} {R_:(List Int)} (hh:F_impl_pageOf x_words x_page=some R_):Fn Try.prog 134 [bo (eI .i64) x_words,.int .i64 x_page] (bo (eI .i64) R_):=by
 let z1:=List.drop (Int.toNat (w64 (x_page*(8:Int)))) x_words; let z2:=List.take (Int.toNat (w64 ((w64 (x_page+(1:Int)))*(8:Int))) - Int.toNat (w64 (x_page*(8:Int)))) z1
 unfold F_impl_pageOf at hh
 refine Fn.start low_impl_pageOf [0,1] (E:=sp 12 [(0,bo (eI .i64) x_words),(1,ii x_page)]) kr (v:=bo (eI .i64) R_) (Hr:=[]) (k:=0) kr (sy [0,1] [] (sp 12 [(0,bo (eI .i64) x_words),(1,ii x_page)]) [] 0 (Aw.sreg [4] [] (yu 6 [(5,bo (eI .i64) x_words),(6,ii x_page),(7,ii (w64 (x_page*(8:Int)))),(8,ii x_page),(9,ii (w64 (x_page+(1:Int)))),(10,ii (w64 ((w64 (x_page+(1:Int)))*(8:Int))))] [] 0 ?_)))
 obtain ⟨hg2,hh⟩:=grd_some hh
 refine ys (.slc 1 (.t 5) (some (.t 7)) (some (.t 10))) (some 11) (op_slc (c:=(eI .i64)) (xs:=x_words) (l:=(w64 (x_page*(8:Int)))) (h:=(w64 ((w64 (x_page+(1:Int)))*(8:Int)))) len_eI kr kr kr hg2 ?_)
 refine yt (sp 12 [(4,bo (eI .i64) z2)]) [] 0 (Aw.ret ?_)
 rw [some_some hh]
 exact gives (r':=bo (eI .i64) z2) kr (Ent.clov (.one _ _ (clo_same (clean_bor (cleans_fl cl_eI)))))
noncomputable def F_impl_pageOf_p (x_words:List Int) (x_page:Int):Option ((List Int) × (Nat × Nat)) :=
 grd ((0:Int)≤(w64 (x_page*(8:Int)))∧(w64 (x_page*(8:Int)))≤(w64 ((w64 (x_page+(1:Int)))*(8:Int)))∧(w64 ((w64 (x_page+(1:Int)))*(8:Int)))≤(((List.length x_words):Nat):Int)) (some (x_words,((Int.toNat (w64 (x_page*(8:Int)))),(Int.toNat (w64 ((w64 (x_page+(1:Int)))*(8:Int))) - Int.toNat (w64 (x_page*(8:Int)))))))
theorem impl_pageOf_p_fn {x_words:List Int} {x_page:Int} {R_:(List Int) × (Nat × Nat)} (hh:F_impl_pageOf_p x_words x_page=some R_):Inl Try.prog 134 [.sref 0 [] 0 (List.length x_words) 1,.int .i64 x_page] [(0,some ⟨3,(fl (eI .i64) x_words)⟩)] 1 (.sref 0 [] (0+R_.2.1*1) R_.2.2 1) [(0,some ⟨3,(fl (eI .i64) R_.1)⟩)] 1:=by
 unfold F_impl_pageOf_p at hh
 let q1:Root:=⟨3,(fl (eI .i64) x_words)⟩
 refine Inl.start low_impl_pageOf [0,1] [0] (E:=sp 12 [(0,sw 0 x_words),(1,ii x_page)]) (H1:=[(0,some q1)]) kr kr (sy [0,1] [0] (sp 12 [(0,sw 0 x_words),(1,ii x_page)]) [(0,some q1)] 1 (Aw.sreg [4] [0] (yu 6 [(5,sw 0 x_words),(6,ii x_page),(7,ii (w64 (x_page*(8:Int)))),(8,ii x_page),(9,ii (w64 (x_page+(1:Int)))),(10,ii (w64 ((w64 (x_page+(1:Int)))*(8:Int))))] [(0,some q1)] 1 ?_)))
 obtain ⟨hg2,hh⟩:=grd_some hh
 refine ys (.slc 1 (.t 5) (some (.t 7)) (some (.t 10))) (some 11) (op_slo (r:=0) (π:=[]) (o:=0) (k:=(List.length x_words)) (sz:=1) (l:=(w64 (x_page*(8:Int)))) (h:=(w64 ((w64 (x_page+(1:Int)))*(8:Int)))) kr kr kr hg2 ?_)
 refine yt (sp 12 [(4,.sref 0 [] (0+Int.toNat (w64 (x_page*(8:Int)))*1) (Int.toNat (w64 ((w64 (x_page+(1:Int)))*(8:Int))) - Int.toNat (w64 (x_page*(8:Int)))) 1)]) [(0,some q1)] 1 (Aw.ret ?_)
 rw [some_some hh]
 exact gives (r':=.sref 0 [] (0+Int.toNat (w64 (x_page*(8:Int)))*1) (Int.toNat (w64 ((w64 (x_page+(1:Int)))*(8:Int))) - Int.toNat (w64 (x_page*(8:Int)))) 1) kr (el [some 0] (rens_1 ren_sy) (hn nr_eI hs_nil))
end Go.Proofs.Ytlikfpmbcdlnjaa
