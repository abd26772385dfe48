/- For all arguments the law FnExactMoveBegin returns true, and its arguments read afterwards as they read before.
   Conditions: none beyond the row's own. -/
import Derived.Test.YtcgggihjcelmhaaRows
import Derived.Test.YtcgggihjcelmhaaLZ
import Derived.Test.YtcgggihjcelmhaaLH
import Derived.Test.YtcgggihjcelmhaaPMXE
namespace Go.Proofs.Ytcgggihjcelmhaa
set_option linter.all false
open Go.ChangeShapes Go.WideShapes Go.ChangeAt Go.RowKit
namespace fnExactMoveBegin
theorem own:ownKnob Try.prog.godebug=none:=by kernel_rfl
theorem yZ:laidOutB Try.prog=true:=by kernel_rfl
set_option maxRecDepth 100000 in
theorem aDr(os:Os)(started:os.Started)(H:Type)(enc:TypeId×Value->H):
 ReturnsInHanded {} Try.checked os 6 .any (Rows.fnExactMoveBeginSpec.pre6 enc Try.prog Try.f6 Rows.fnExactMoveBeginRow.domain false) (Rows.fnExactMoveBeginSpec.post enc Try.prog Try.f6 false true false false):=by
 refine aBk (C:=Try.checked) own started (by kernel_rfl) Try.func6 (ChangeSpec.witness6 (enc:=enc) (C:=Try.checked) false ⟨#[],#[.agg #[.slice none 0 0,.slice none 0 0],.agg #[.slice none 0 0,.slice none 0 0],.int .i64 0],[]⟩ 8 (by kernel_rfl) (by kernel_rfl) (by kernel_rfl) (by kernel_rfl)) 4 rfl Try.underlying4 rfl (λds h=>by match ds,h with|[d0,d1,d2],_=>rfl) yZ (by kernel_rfl) ?_;intro W base args ds p hval hA hlt;rw[Try.params6]at hA hval;obtain⟨v0,vs0,d0,ds0,p0,q0,hargs,rfl,rfl,h0,r0⟩:=trodAll_cons hA;obtain⟨v1,vs1,d1,ds1,p1,q1,hvs1,rfl,rfl,h1,r1⟩:=trodAll_cons r0;obtain⟨v2,vs2,d2,ds2,p2,q2,hvs2,rfl,rfl,h2,r2⟩:=trodAll_cons r1;obtain⟨rfl,rfl,rfl⟩:=trodAll_nil r2;obtain rfl:args=#[v0,v1,v2]:=(by cases args;simp_all);obtain⟨es0,f0,o0,y0⟩:=aFe (n:=0) (β:=λ_ _=>⟨false,0,0,0⟩) (k:=8) (ss:=zI) Try.underlying42 (by kernel_rfl) (hval 0 42 v0 rfl rfl) h0;obtain⟨a,fs0,e0,b0,g0,-⟩:=xY (ss:=[]) f0 o0;obtain rfl:=yU g0;rw[e0,avs,List.append_nil]at y0;obtain⟨es1,f1,o1,y1⟩:=aFe (n:=0) (β:=λ_ _=>⟨false,0,0,0⟩) (k:=8) (ss:=zI) Try.underlying42 (by kernel_rfl) (hval 1 42 v1 rfl rfl) h1;obtain⟨b,fs1,e1,b1,g1,-⟩:=xY (ss:=[]) f1 o1;obtain rfl:=yU g1;rw[e1,avs,List.append_nil]at y1;obtain⟨g,i2,y2⟩:=bJg (n:=0) (β:=λ_ _=>⟨false,0,0,0⟩) Try.underlying3 (hval 2 3 v2 rfl rfl) h2;exact aCu (wW (aMi (g:=g) b0 b1)) (by simp only[aZ,AV.clean,aL aP,Bool.and_self,aL oE]) (by simp only[RVt,bo];exact⟨_,_,rfl,y0,_,_,rfl,y1,_,_,rfl,y2,rfl⟩)
set_option maxRecDepth 100000 in
theorem aDj:joinedFacts Try.pinned.checked.prog 6 Try.f6 Rows.fnExactMoveBeginSpec Rows.fnExactMoveBeginRow=true:=by unfold joinedFacts;rw[aMl,aNa,aTx];kernel_rfl
theorem over:Rows.fnExactMoveBeginRow.holds Try.pinned (OpenSpec.ofChange Rows.fnExactMoveBeginSpec):=
 OpenClaim.holds_of_wide 6 Try.f6 rfl rfl rfl rfl rfl rfl rfl ⟨rfl,rfl,rfl,rfl,rfl⟩ rfl rfl rfl rfl rfl (by kernel_rfl) Try.func6 aDj
  (of_decide_eq_true (by kernel_rfl)) (by unfold Func.isWrapper;first|(rw[if_pos (by decide+kernel)];kernel_rfl)|(rw[if_neg (by decide+kernel)];exact⟨rfl,rfl⟩))
  (λos started H enc _=>aDr os started H enc)
theorem proved:Rows.FnExactMoveBeginSaid:=over
end fnExactMoveBegin
end Go.Proofs.Ytcgggihjcelmhaa
