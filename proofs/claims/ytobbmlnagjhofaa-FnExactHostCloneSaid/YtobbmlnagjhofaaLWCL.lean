/- For all arguments the law FnExactHostClone returns true, and its arguments read afterwards as they read before.
   Conditions: none beyond the row's own. -/
import Derived.Test.YtobbmlnagjhofaaRows
import Derived.Test.YtobbmlnagjhofaaLZ
import Derived.Test.YtobbmlnagjhofaaLH
import Derived.Test.YtobbmlnagjhofaaPCXG
namespace Go.Proofs.Ytobbmlnagjhofaa
set_option linter.all false
open Go.ChangeShapes Go.WideShapes Go.ChangeAt Go.RowKit
namespace fnExactHostClone
theorem own:ownKnob Try.prog.godebug=none:=by kernel_rfl
theorem yJ:laidOutB Try.prog=true:=by kernel_rfl
set_option maxRecDepth 100000 in
theorem aDj(os:Os)(started:os.Started)(H:Type)(enc:TypeId×Value->H):
 ReturnsInHanded {} Try.checked os 6 .any (Rows.fnExactHostCloneSpec.pre6 enc Try.prog Try.f6 Rows.fnExactHostCloneRow.domain false) (Rows.fnExactHostCloneSpec.post enc Try.prog Try.f6 false true false false):=by
 refine aAr (C:=Try.checked) own started (by kernel_rfl) Try.func6 (ChangeSpec.witness6 (enc:=enc) (C:=Try.checked) false ⟨#[],#[.agg #[.slice none 0 0,.slice none 0 0],.int .i64 0],[]⟩ 8 (by kernel_rfl) (by kernel_rfl) (by kernel_rfl) (by kernel_rfl)) 4 rfl Try.underlying4 rfl (λds h=>by match ds,h with|[d0,d1],_=>rfl) yJ (by kernel_rfl) ?_;intro W base args ds p hval hA hlt;rw[Try.params6]at hA hval;obtain⟨v0,vs0,d0,ds0,p0,q0,hargs,rfl,rfl,h0,r0⟩:=trodAll_cons hA;obtain⟨v1,vs1,d1,ds1,p1,q1,hvs1,rfl,rfl,h1,r1⟩:=trodAll_cons r0;obtain⟨rfl,rfl,rfl⟩:=trodAll_nil r1;obtain rfl:args=#[v0,v1]:=(by cases args;simp_all);obtain⟨es0,f0,o0,y0⟩:=aEu (n:=0) (β:=λ_ _=>⟨false,0,0,0⟩) (k:=8) (ss:=aCi) Try.underlying55 (by kernel_rfl) (hval 0 55 v0 rfl rfl) h0;obtain⟨h,fs0,e0,b0,g0,-⟩:=aDm (ss:=[]) f0 o0;obtain rfl:=yX g0;rw[e0,avs,List.append_nil]at y0;obtain⟨g,i1,y1⟩:=aKf (n:=0) (β:=λ_ _=>⟨false,0,0,0⟩) Try.underlying3 (hval 1 3 v1 rfl rfl) h1;exact aDp (vK (aKg (g:=g) b0)) (by simp only[bG,AV.clean,aX aI,Bool.and_self,aX qP]) (by simp only[RVt,bo];exact⟨_,_,rfl,y0,_,_,rfl,y1,rfl⟩)
set_option maxRecDepth 100000 in
theorem aDd:joinedFacts Try.pinned.checked.prog 6 Try.f6 Rows.fnExactHostCloneSpec Rows.fnExactHostCloneRow=true:=by unfold joinedFacts;rw[aLd,aKd,aNz];kernel_rfl
theorem over:Rows.fnExactHostCloneRow.holds Try.pinned (OpenSpec.ofChange Rows.fnExactHostCloneSpec):=
 OpenClaim.holds_of_wide 6 Try.f6 rfl rfl rfl rfl rfl rfl rfl ⟨rfl,rfl,rfl,rfl,rfl⟩ rfl rfl rfl rfl rfl (by kernel_rfl) Try.func6 aDd
  (of_decide_eq_true (by kernel_rfl)) (by unfold Func.isWrapper;first|(rw[if_pos (by decide+kernel)];kernel_rfl)|(rw[if_neg (by decide+kernel)];exact⟨rfl,rfl⟩))
  (λos started H enc _=>aDj os started H enc)
theorem proved:Rows.FnExactHostCloneSaid:=over
end fnExactHostClone
end Go.Proofs.Ytobbmlnagjhofaa
