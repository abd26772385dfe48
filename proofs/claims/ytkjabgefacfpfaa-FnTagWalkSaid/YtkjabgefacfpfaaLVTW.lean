/- For all arguments the law FnTagWalk returns true, and its arguments read afterwards as they read before.
   Conditions: none beyond the row's own. -/
import Derived.Test.YtkjabgefacfpfaaRows
import Derived.Test.YtkjabgefacfpfaaLZ
import Derived.Test.YtkjabgefacfpfaaZY
import Derived.Test.YtkjabgefacfpfaaPVTW
namespace Go.Proofs.Ytkjabgefacfpfaa
set_option linter.all false
open Go.ChangeShapes Go.WideShapes Go.ChangeAt Go.RowKit
namespace fnTagWalk
theorem own:ownKnob Try.prog.godebug=none:=by kernel_rfl
theorem bBk:laidOutB Try.prog=true:=by kernel_rfl
set_option maxRecDepth 100000 in
theorem bCm(os:Os)(started:os.Started)(H:Type)(enc:TypeId×Value->H):
 ReturnsInHanded {} Try.checked os 8 .any (Rows.fnTagWalkSpec.pre6 enc Try.prog Try.f8 Rows.fnTagWalkRow.domain false) (Rows.fnTagWalkSpec.post enc Try.prog Try.f8 false true false false):=by
 refine aRp (C:=Try.checked) own started (by kernel_rfl) Try.func8 (ChangeSpec.witness6 (enc:=enc) (C:=Try.checked) false ⟨#[],#[.slice none 0 0],[]⟩ 8 (by kernel_rfl) (by kernel_rfl) (by kernel_rfl) (by kernel_rfl)) 4 rfl Try.underlying4 rfl (λds h=>by match ds,h with|[d0],_=>rfl) bBk (by kernel_rfl) ?_;intro W base args ds p hval hA hlt;rw[Try.params8]at hA hval;obtain⟨v0,vs0,d0,ds0,p0,q0,hargs,rfl,rfl,h0,r0⟩:=trodAll_cons hA;obtain⟨rfl,rfl,rfl⟩:=trodAll_nil r0;obtain rfl:args=#[v0]:=(by cases args;simp_all);obtain⟨x0,f0,o0,y0⟩:=aUj (n:=0) (β:=λ_ _=>⟨false,0,0,0⟩) (k:=8) (s:= .sl 1 [.u8]) Try.underlying22 (by kernel_rfl) (hval 0 22 v0 rfl rfl) h0;obtain⟨xs,e0,b0⟩:=aWw (c:=eI .u8) (p:=InB) (λr=>bEl) f0 o0;rw[e0]at y0;exact aVo (aCb (aOe b0.2)) (by simp only[aT,AV.clean,cD dC,Bool.and_self]) (by simp only[RVt,bo];exact⟨_,_,rfl,y0,rfl⟩)
set_option maxRecDepth 100000 in
theorem bFl:joinedFacts Try.pinned.checked.prog 8 Try.f8 Rows.fnTagWalkSpec Rows.fnTagWalkRow=true:=by unfold joinedFacts;rw[bAh,bAe,bDz];kernel_rfl
theorem over:Rows.fnTagWalkRow.holds Try.pinned (OpenSpec.ofChange Rows.fnTagWalkSpec):=
 OpenClaim.holds_of_wide 8 Try.f8 rfl rfl rfl rfl rfl rfl rfl ⟨rfl,rfl,rfl,rfl,rfl⟩ rfl rfl rfl rfl rfl (by kernel_rfl) Try.func8 bFl
  (of_decide_eq_true (by kernel_rfl)) (by unfold Func.isWrapper;first|(rw[if_pos (by decide+kernel)];kernel_rfl)|(rw[if_neg (by decide+kernel)];exact⟨rfl,rfl⟩))
  (λos started H enc _=>bCm os started H enc)
theorem proved:Rows.FnTagWalkSaid:=over
end fnTagWalk
end Go.Proofs.Ytkjabgefacfpfaa
