/- Plain functions of the program, and that it hands back what they say. Made by program. -/
import Derived.Test.YtlikfpmbcdlnjaaWT
import Derived.Test.YtlikfpmbcdlnjaaProg
import Derived.Test.YtlikfpmbcdlnjaaWHC1
import Derived.Test.YtlikfpmbcdlnjaaWHV1
import Derived.Test.YtlikfpmbcdlnjaaWO1
namespace Go.Proofs.Ytlikfpmbcdlnjaa
open Go.RowKit
set_option maxRecDepth 100000
set_option linter.all false
set_option maxHeartbeats 0
def Lf142_r0:List LOper:=[oX 3 50 1,oo 4 (.mv (.c .nil))]
def Lf142_r1:List LOper:=[oA 5 0 3,ol 6 5,ob 7 .eql 6 (-1)]
def Lf142_r2:List LOper:=[oo 8 (.mk 3 1 8 [(ii 0)] (.c (ii 8))),om 4 8]
def Lf142_r3:List LOper:=[om 9 0,oA 10 0 3,ol 11 10,oK 12 134 [9,11],om 4 12]
def Lf142:LFun:=⟨13,[(.tmp 4)],(.seq (.reg false Lf142_r0) (.seq (.seq (.reg false Lf142_r1) (.cond (.t 7) (.seq (.reg false Lf142_r2) .ret) .skip)) (.seq (.reg false Lf142_r3) .ret)))⟩
theorem low_impl_slotWords:lowFun Go.Proofs.Try.prog 142=some Lf142:=by kernel_rfl
noncomputable def F_impl_slotWords (x_words:List Int) (x_s:DSlot):Option (List Int) :=
 cond (decide (x_s.Frame=(-1:Int)))
  (some (List.replicate (Int.toNat (8:Int)) (0:Int)))
  (Option.bind (F_impl_pageOf x_words x_s.Frame) fun v1 =>
  some v1)
theorem impl_slotWords_fn {x_words:List Int} {x_s:DSlot} {R_:(List Int)} (hh:F_impl_slotWords x_words x_s=some R_):Fn Try.prog 142 [bo (eI .i64) x_words,.agg (C_50 x_s)] (bo (eI .i64) R_):=by
 let z1:=(0,bo (eI .i64) x_words); let z2:EH:=(0,some ⟨50,(C_50 x_s)⟩); let z3:=(7,bb (decide (x_s.Frame=(-1:Int))))
 unfold F_impl_slotWords at hh
 refine Fn.start low_impl_slotWords [0,1] (E:=sp 13 [z1,(1,.agg (C_50 x_s))]) kr (v:=bo (eI .i64) R_) (Hr:=[]) (k:=0) kr (sy [0,3] [0] (sp 13 [z1,(3,pp 0)]) [z2] 1 (Aw.seq (sy [0,3,7] [0] (sp 13 [z1,(3,pp 0),z3]) [z2] 1 ?_)))
 rcases cond_some hh with ⟨hb,hh⟩ | ⟨hb,hh⟩
 · refine cT hb (Aw.sreg [4] [1] (ys (.mk 3 1 8 [(ii 0)] (.c (ii 8))) (some 8) (op_mk (c:=(eI .i64)) (d:=(0:Int)) (k:=(8:Int)) kr dd kr ?_)))
   refine yt (sp 13 [(4,.sref 1 [] 0 (List.length (List.replicate (Int.toNat (8:Int)) (0:Int))) 1)]) [(1,some ⟨3,(fl (eI .i64) (List.replicate (Int.toNat (8:Int)) (0:Int)))⟩)] 2 (Aw.ret (then_r ?_))
   rw [some_some hh]
   exact gives (r':=.sref 1 [] 0 (List.length (List.replicate (Int.toNat (8:Int)) (0:Int))) 1) kr (Ent.clov (.one _ _ (clo_own (c:=(eI .i64)) (xs:=(List.replicate (Int.toNat (8:Int)) (0:Int))) (e:=3) eqn len_eI no_eI cl_eI kr)))
 refine cF hb (Aw.xskip (fun _ _ _ hq=>then_m hq) (Aw.sreg [4] [] (yj 3  (sp 13 [z1,(3,pp 0),z3,(9,bo (eI .i64) x_words),(10,pp 0),(11,ii x_s.Frame)]) [z2] 1 ?_)))
 obtain ⟨v1,hv1,hh⟩:=bind_some hh
 refine ys (.call 134 [(.t 9),(.t 11)]) (some 12) (op_callp (r:=bo (eI .i64) v1) (v:=bo (eI .i64) v1) (Hr:=[]) (n':=1) (impl_pageOf_fn hv1) (clz_v (vs:=[bo (eI .i64) x_words,ii x_s.Frame]) kr (clz_c (clo_same (clean_bor (cleans_fl cl_eI))) (cz1 clz_n))) (by simp only [AV.noRef,noRefs,Bool.and_self,noRefs_fl nr_eI]) kr ?_)
 refine yt (sp 13 [(4,bo (eI .i64) v1)]) [] 1 (Aw.ret ?_)
 rw [some_some hh]
 exact gives (r':=bo (eI .i64) v1) kr (Ent.clov (.one _ _ (clo_same (clean_bor (cleans_fl cl_eI)))))
end Go.Proofs.Ytlikfpmbcdlnjaa
