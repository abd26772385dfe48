/- For all arguments the law FnHostGive returns true, and its arguments read afterwards as they read before.
   Conditions: none beyond the row's own. -/
import Derived.Test.YtobbmlnagjhofaaRows
import Derived.Test.YtobbmlnagjhofaaLZ
import Derived.Test.YtobbmlnagjhofaaZY
import Derived.Test.YtobbmlnagjhofaaPCVG
namespace Go.Proofs.Ytobbmlnagjhofaa
set_option linter.all false
open Go.ChangeShapes Go.WideShapes Go.ChangeAt Go.RowKit
namespace fnHostGive
theorem own:ownKnob Try.prog.godebug=none:=by kernel_rfl
theorem yW:laidOutB Try.prog=true:=by kernel_rfl
set_option maxRecDepth 100000 in
theorem aCr(os:Os)(started:os.Started)(H:Type)(enc:TypeId×Value->H):
 ReturnsInHanded {} Try.checked os 5 .any (Rows.fnHostGiveSpec.pre6 enc Try.prog Try.f5 Rows.fnHostGiveRow.domain false) (Rows.fnHostGiveSpec.post enc Try.prog Try.f5 false true false false):=by
 refine aAs (C:=Try.checked) own started (by kernel_rfl) Try.func5 (ChangeSpec.witness6 (enc:=enc) (C:=Try.checked) false ⟨#[],#[.slice none 0 0],[]⟩ 8 (by kernel_rfl) (by kernel_rfl) (by kernel_rfl) (by kernel_rfl)) 4 rfl Try.underlying4 rfl (λds h=>by match ds,h with|[d0],_=>rfl) yW (by kernel_rfl) ?_;intro W base args ds p hval hA hlt;rw[Try.params5]at hA hval;obtain⟨v0,vs0,d0,ds0,p0,q0,hargs,rfl,rfl,h0,r0⟩:=trodAll_cons hA;obtain⟨rfl,rfl,rfl⟩:=trodAll_nil r0;obtain rfl:args=#[v0]:=(by cases args;simp_all);obtain⟨x0,f0,o0,y0⟩:=aDt (n:=0) (β:=λ_ _=>⟨false,0,0,0⟩) (k:=8) (s:= .sl 1 [.u8]) Try.underlying22 (by kernel_rfl) (hval 0 22 v0 rfl rfl) h0;obtain⟨xs,e0,b0⟩:=aHp (c:=eI .u8) (p:=InB) (λr=>aOf) f0 o0;rw[e0]at y0;exact aEc (aDb (aQa b0.2)) (by simp only[aS,AV.clean,bN cE,Bool.and_self]) (by simp only[RVt,bo];exact⟨_,_,rfl,y0,rfl⟩)
set_option maxRecDepth 100000 in
theorem aDo:joinedFacts Try.pinned.checked.prog 5 Try.f5 Rows.fnHostGiveSpec Rows.fnHostGiveRow=true:=by unfold joinedFacts;rw[aLc,aKv,aPl];kernel_rfl
theorem over:Rows.fnHostGiveRow.holds Try.pinned (OpenSpec.ofChange Rows.fnHostGiveSpec):=
 OpenClaim.holds_of_wide 5 Try.f5 rfl rfl rfl rfl rfl rfl rfl ⟨rfl,rfl,rfl,rfl,rfl⟩ rfl rfl rfl rfl rfl (by kernel_rfl) Try.func5 aDo
  (of_decide_eq_true (by kernel_rfl)) (by unfold Func.isWrapper;first|(rw[if_pos (by decide+kernel)];kernel_rfl)|(rw[if_neg (by decide+kernel)];exact⟨rfl,rfl⟩))
  (λos started H enc _=>aCr os started H enc)
theorem proved:Rows.FnHostGiveSaid:=over
end fnHostGive
end Go.Proofs.Ytobbmlnagjhofaa
