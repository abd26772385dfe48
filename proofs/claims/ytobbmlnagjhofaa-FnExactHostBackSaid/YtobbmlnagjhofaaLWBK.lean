/- For all arguments the law FnExactHostBack returns true, and its arguments read afterwards as they read before.
   Conditions: none beyond the row's own. -/
import Derived.Test.YtobbmlnagjhofaaRows
import Derived.Test.YtobbmlnagjhofaaLZ
import Derived.Test.YtobbmlnagjhofaaLH
import Derived.Test.YtobbmlnagjhofaaLS
import Derived.Test.YtobbmlnagjhofaaPCXG
namespace Go.Proofs.Ytobbmlnagjhofaa
set_option linter.all false
open Go.ChangeShapes Go.WideShapes Go.ChangeAt Go.RowKit
namespace fnExactHostBack
theorem own:ownKnob Try.prog.godebug=none:=by kernel_rfl
theorem yJ:laidOutB Try.prog=true:=by kernel_rfl
set_option maxRecDepth 100000 in
theorem aDj(os:Os)(started:os.Started)(H:Type)(enc:TypeId×Value->H):
 ReturnsInHanded {} Try.checked os 7 .any (Rows.fnExactHostBackSpec.pre6 enc Try.prog Try.f7 Rows.fnExactHostBackRow.domain false) (Rows.fnExactHostBackSpec.post enc Try.prog Try.f7 false true false false):=by
 refine aAr (C:=Try.checked) own started (by kernel_rfl) Try.func7 (ChangeSpec.witness6 (enc:=enc) (C:=Try.checked) false ⟨#[],#[.agg #[.slice none 0 0,.slice none 0 0],.int .i64 0,.agg #[.slice none 0 0,.int .i64 0,.int .i64 0,.int .i64 0,.int .i64 0,.bool false,.int .i64 0,.int .i64 0,.int .i64 0,.bool false,.bool false,.bool false,.bool false,.slice none 0 0,.slice none 0 0,.slice none 0 0]],[]⟩ 8 (by kernel_rfl) (by kernel_rfl) (by kernel_rfl) (by kernel_rfl)) 4 rfl Try.underlying4 rfl (λds h=>by match ds,h with|[d0,d1,d2],_=>rfl) yJ (by kernel_rfl) ?_;intro W base args ds p hval hA hlt;rw[Try.params7]at hA hval;obtain⟨v0,vs0,d0,ds0,p0,q0,hargs,rfl,rfl,h0,r0⟩:=trodAll_cons hA;obtain⟨v1,vs1,d1,ds1,p1,q1,hvs1,rfl,rfl,h1,r1⟩:=trodAll_cons r0;obtain⟨v2,vs2,d2,ds2,p2,q2,hvs2,rfl,rfl,h2,r2⟩:=trodAll_cons r1;obtain⟨rfl,rfl,rfl⟩:=trodAll_nil r2;obtain rfl:args=#[v0,v1,v2]:=(by cases args;simp_all);obtain⟨es0,f0,o0,y0⟩:=aEu (n:=0) (β:=λ_ _=>⟨false,0,0,0⟩) (k:=8) (ss:=aCi) Try.underlying55 (by kernel_rfl) (hval 0 55 v0 rfl rfl) h0;obtain⟨h,fs0,e0,b0,g0,-⟩:=aDm (ss:=[]) f0 o0;obtain rfl:=yX g0;rw[e0,avs,List.append_nil]at y0;obtain⟨g,i1,y1⟩:=aKf (n:=0) (β:=λ_ _=>⟨false,0,0,0⟩) Try.underlying3 (hval 1 3 v1 rfl rfl) h1;obtain⟨es2,f2,o2,y2⟩:=aEu (n:=0) (β:=λ_ _=>⟨false,0,0,0⟩) (k:=8) (ss:=aQi) Try.underlying62 (by kernel_rfl) (hval 2 62 v2 rfl rfl) h2;obtain⟨b,fs2,e2,b2,g2,-⟩:=bAb (ss:=[]) f2 o2;obtain rfl:=yX g2;rw[e2,avs,List.append_nil]at y2;exact aDp (wQ (aMu (g:=g) b0 b2.1.1 b2.2.1.1 b2.2.2.1.1 b2.2.2.2.1)) (by simp only[bG,AV.clean,aX aI,Bool.and_self,aX qP,lP]) (by simp only[RVt,bo];exact⟨_,_,rfl,y0,_,_,rfl,y1,_,_,rfl,y2,rfl⟩)
set_option maxRecDepth 100000 in
theorem aDd:joinedFacts Try.pinned.checked.prog 7 Try.f7 Rows.fnExactHostBackSpec Rows.fnExactHostBackRow=true:=by unfold joinedFacts;rw[aLd,aKd,aNz];kernel_rfl
theorem over:Rows.fnExactHostBackRow.holds Try.pinned (OpenSpec.ofChange Rows.fnExactHostBackSpec):=
 OpenClaim.holds_of_wide 7 Try.f7 rfl rfl rfl rfl rfl rfl rfl ⟨rfl,rfl,rfl,rfl,rfl⟩ rfl rfl rfl rfl rfl (by kernel_rfl) Try.func7 aDd
  (of_decide_eq_true (by kernel_rfl)) (by unfold Func.isWrapper;first|(rw[if_pos (by decide+kernel)];kernel_rfl)|(rw[if_neg (by decide+kernel)];exact⟨rfl,rfl⟩))
  (λos started H enc _=>aDj os started H enc)
theorem proved:Rows.FnExactHostBackSaid:=over
end fnExactHostBack
end Go.Proofs.Ytobbmlnagjhofaa
