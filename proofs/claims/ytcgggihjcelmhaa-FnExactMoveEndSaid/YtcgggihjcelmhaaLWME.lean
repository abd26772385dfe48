/- For all arguments the law FnExactMoveEnd returns true, and its arguments read afterwards as they read before.
   Conditions: none beyond the row's own. -/
import Derived.Test.YtcgggihjcelmhaaRows
import Derived.Test.YtcgggihjcelmhaaLZ
import Derived.Test.YtcgggihjcelmhaaLH
import Derived.Test.YtcgggihjcelmhaaLMV
import Derived.Test.YtcgggihjcelmhaaPMXE
namespace Go.Proofs.Ytcgggihjcelmhaa
set_option linter.all false
open Go.ChangeShapes Go.WideShapes Go.ChangeAt Go.RowKit
namespace fnExactMoveEnd
theorem own:ownKnob Try.prog.godebug=none:=by kernel_rfl
theorem yZ:laidOutB Try.prog=true:=by kernel_rfl
set_option maxRecDepth 100000 in
theorem aDr(os:Os)(started:os.Started)(H:Type)(enc:TypeId×Value->H):
 ReturnsInHanded {} Try.checked os 7 .any (Rows.fnExactMoveEndSpec.pre6 enc Try.prog Try.f7 Rows.fnExactMoveEndRow.domain false) (Rows.fnExactMoveEndSpec.post enc Try.prog Try.f7 false true false false):=by
 refine aBk (C:=Try.checked) own started (by kernel_rfl) Try.func7 (ChangeSpec.witness6 (enc:=enc) (C:=Try.checked) false ⟨#[],#[.agg #[.slice none 0 0,.slice none 0 0,.slice none 0 0,.slice none 0 0,.int .i64 0,.int .i64 0,.slice none 0 0]],[]⟩ 8 (by kernel_rfl) (by kernel_rfl) (by kernel_rfl) (by kernel_rfl)) 4 rfl Try.underlying4 rfl (λds h=>by match ds,h with|[d0],_=>rfl) yZ (by kernel_rfl) ?_;intro W base args ds p hval hA hlt;rw[Try.params7]at hA hval;obtain⟨v0,vs0,d0,ds0,p0,q0,hargs,rfl,rfl,h0,r0⟩:=trodAll_cons hA;obtain⟨rfl,rfl,rfl⟩:=trodAll_nil r0;obtain rfl:args=#[v0]:=(by cases args;simp_all);obtain⟨es0,f0,o0,y0⟩:=aFe (n:=0) (β:=λ_ _=>⟨false,0,0,0⟩) (k:=8) (ss:=aKx) Try.underlying44 (by kernel_rfl) (hval 0 44 v0 rfl rfl) h0;obtain⟨m,fs0,e0,b0,g0,-⟩:=aOf (ss:=[]) f0 o0;obtain rfl:=yU g0;rw[e0,avs,List.append_nil]at y0;exact aCu (yG (aQm b0)) (by simp only[aZ,AV.clean,aL aP,Bool.and_self,aL iP,aFg,aL oE]) (by simp only[RVt,bo];exact⟨_,_,rfl,y0,rfl⟩)
set_option maxRecDepth 100000 in
theorem aDj:joinedFacts Try.pinned.checked.prog 7 Try.f7 Rows.fnExactMoveEndSpec Rows.fnExactMoveEndRow=true:=by unfold joinedFacts;rw[aMl,aNa,aTx];kernel_rfl
theorem over:Rows.fnExactMoveEndRow.holds Try.pinned (OpenSpec.ofChange Rows.fnExactMoveEndSpec):=
 OpenClaim.holds_of_wide 7 Try.f7 rfl rfl rfl rfl rfl rfl rfl ⟨rfl,rfl,rfl,rfl,rfl⟩ rfl rfl rfl rfl rfl (by kernel_rfl) Try.func7 aDj
  (of_decide_eq_true (by kernel_rfl)) (by unfold Func.isWrapper;first|(rw[if_pos (by decide+kernel)];kernel_rfl)|(rw[if_neg (by decide+kernel)];exact⟨rfl,rfl⟩))
  (λos started H enc _=>aDr os started H enc)
theorem proved:Rows.FnExactMoveEndSaid:=over
end fnExactMoveEnd
end Go.Proofs.Ytcgggihjcelmhaa
