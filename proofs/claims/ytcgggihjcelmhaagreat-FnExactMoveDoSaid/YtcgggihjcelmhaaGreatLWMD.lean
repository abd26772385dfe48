/- For all arguments the law FnExactMoveDo returns true, and its arguments read afterwards as they read before.
   Conditions: none beyond the row's own. -/
import Derived.Test.YtcgggihjcelmhaaGreatRows
import Derived.Test.YtcgggihjcelmhaaGreatLZ
import Derived.Test.YtcgggihjcelmhaaGreatLH
import Derived.Test.YtcgggihjcelmhaaGreatLMV
import Derived.Test.YtcgggihjcelmhaaGreatLAC
import Derived.Test.YtcgggihjcelmhaaGreatPMXD
namespace Go.Proofs.YtcgggihjcelmhaaGreat
set_option linter.all false
open Go.ChangeShapes Go.WideShapes Go.ChangeAt Go.RowKit
namespace fnExactMoveDo
theorem own:ownKnob Tryz.prog.godebug=none:=by kernel_rfl
theorem bTr:laidOutB Tryz.prog=true:=by kernel_rfl
set_option maxRecDepth 100000 in
theorem bXk(os:Os)(started:os.Started)(H:Type)(enc:TypeId×Value->H):
 ReturnsInHanded {} Tryz.checked os 6 .any (Rows.fnExactMoveDoSpec.pre6 enc Tryz.prog Tryz.f6 Rows.fnExactMoveDoRow.domain false) (Rows.fnExactMoveDoSpec.post enc Tryz.prog Tryz.f6 false true false false):=by
 refine bGx (C:=Tryz.checked) own started (by kernel_rfl) Tryz.func6 (ChangeSpec.witness6 (enc:=enc) (C:=Tryz.checked) false ⟨#[],#[.agg #[.slice none 0 0,.slice none 0 0,.slice none 0 0,.slice none 0 0,.int .i64 0,.int .i64 0,.slice none 0 0],.agg #[.int .i64 0,.int .i64 0]],[]⟩ 8 (by kernel_rfl) (by kernel_rfl) (by kernel_rfl) (by kernel_rfl)) 4 rfl Tryz.underlying4 rfl (λds h=>by match ds,h with|[d0,d1],_=>rfl) bTr (by kernel_rfl) ?_;intro W base args ds p hval hA hlt;rw[Tryz.params6]at hA hval;obtain⟨v0,vs0,d0,ds0,p0,q0,hargs,rfl,rfl,h0,r0⟩:=trodAll_cons hA;obtain⟨v1,vs1,d1,ds1,p1,q1,hvs1,rfl,rfl,h1,r1⟩:=trodAll_cons r0;obtain⟨rfl,rfl,rfl⟩:=trodAll_nil r1;obtain rfl:args=#[v0,v1]:=(by cases args;simp_all);obtain⟨es0,f0,o0,y0⟩:=bDx (n:=0) (β:=λ_ _=>⟨false,0,0,0⟩) (k:=8) (ss:=bAh) Tryz.underlying64 (by kernel_rfl) (hval 0 64 v0 rfl rfl) h0;obtain⟨m,fs0,e0,b0,g0,-⟩:=bMo (ss:=[]) f0 o0;obtain rfl:=aQv g0;rw[e0,avs,List.append_nil]at y0;obtain⟨es1,f1,o1,y1⟩:=bDx (n:=0) (β:=λ_ _=>⟨false,0,0,0⟩) (k:=8) (ss:=bAv) Tryz.underlying65 (by kernel_rfl) (hval 1 65 v1 rfl rfl) h1;obtain⟨a,fs1,e1,b1,g1,-⟩:=bMu (ss:=[]) f1 o1;obtain rfl:=aQv g1;rw[e1,avs,List.append_nil]at y1;exact bNj (aDu (bDh (a:=a) b0)) (by simp only[aT,AV.clean,aM bJ,Bool.and_self,aM kV,aKu,aM wR,aLa]) (by simp only[RVt,bo];exact⟨_,_,rfl,y0,_,_,rfl,y1,rfl⟩)
set_option maxRecDepth 100000 in
theorem cAd:joinedFacts Tryz.pinned.checked.prog 6 Tryz.f6 Rows.fnExactMoveDoSpec Rows.fnExactMoveDoRow=true:=by unfold joinedFacts;rw[bTn,bUd,bXr];kernel_rfl
theorem over:Rows.fnExactMoveDoRow.holds Tryz.pinned (OpenSpec.ofChange Rows.fnExactMoveDoSpec):=
 OpenClaim.holds_of_wide 6 Tryz.f6 rfl rfl rfl rfl rfl rfl rfl ⟨rfl,rfl,rfl,rfl,rfl⟩ rfl rfl rfl rfl rfl (by kernel_rfl) Tryz.func6 cAd
  (of_decide_eq_true (by kernel_rfl)) (by unfold Func.isWrapper;first|(rw[if_pos (by decide+kernel)];kernel_rfl)|(rw[if_neg (by decide+kernel)];exact⟨rfl,rfl⟩))
  (λos started H enc _=>bXk os started H enc)
theorem proved:Rows.FnExactMoveDoSaid:=over
end fnExactMoveDo
end Go.Proofs.YtcgggihjcelmhaaGreat
