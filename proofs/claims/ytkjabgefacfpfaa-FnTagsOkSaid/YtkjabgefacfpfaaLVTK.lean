/- For all arguments the law FnTagsOk returns true, and its arguments read afterwards as they read before.
   Conditions: none beyond the row's own. -/
import Derived.Test.YtkjabgefacfpfaaRows
import Derived.Test.YtkjabgefacfpfaaLZ
import Derived.Test.YtkjabgefacfpfaaZY
import Derived.Test.YtkjabgefacfpfaaPVTK
namespace Go.Proofs.Ytkjabgefacfpfaa
set_option linter.all false
open Go.ChangeShapes Go.WideShapes Go.ChangeAt Go.RowKit
namespace fnTagsOk
theorem own:ownKnob Try.prog.godebug=none:=by kernel_rfl
theorem aZy:laidOutB Try.prog=true:=by kernel_rfl
set_option maxRecDepth 100000 in
theorem bBi(os:Os)(started:os.Started)(H:Type)(enc:TypeId×Value->H):
 ReturnsInHanded {} Try.checked os 7 .any (Rows.fnTagsOkSpec.pre6 enc Try.prog Try.f7 Rows.fnTagsOkRow.domain false) (Rows.fnTagsOkSpec.post enc Try.prog Try.f7 false true false false):=by
 refine aQe (C:=Try.checked) own started (by kernel_rfl) Try.func7 (ChangeSpec.witness6 (enc:=enc) (C:=Try.checked) false ⟨#[],#[.slice none 0 0],[]⟩ 8 (by kernel_rfl) (by kernel_rfl) (by kernel_rfl) (by kernel_rfl)) 4 rfl Try.underlying4 rfl (λds h=>by match ds,h with|[d0],_=>rfl) aZy (by kernel_rfl) ?_;intro W base args ds p hval hA hlt;rw[Try.params7]at hA hval;obtain⟨v0,vs0,d0,ds0,p0,q0,hargs,rfl,rfl,h0,r0⟩:=trodAll_cons hA;obtain⟨rfl,rfl,rfl⟩:=trodAll_nil r0;obtain rfl:args=#[v0]:=(by cases args;simp_all);obtain⟨x0,f0,o0,y0⟩:=aUd (n:=0) (β:=λ_ _=>⟨false,0,0,0⟩) (k:=8) (s:= .sl 1 [.u8]) Try.underlying22 (by kernel_rfl) (hval 0 22 v0 rfl rfl) h0;obtain⟨xs,e0,b0⟩:=aUt (c:=eI .u8) (p:=InB) (λr=>bAw) f0 o0;rw[e0]at y0;exact aSe (aBk (aQz b0.2)) (by simp only[aT,AV.clean,cD dB,Bool.and_self]) (by simp only[RVt,bo];exact⟨_,_,rfl,y0,rfl⟩)
set_option maxRecDepth 100000 in
theorem bCe:joinedFacts Try.pinned.checked.prog 7 Try.f7 Rows.fnTagsOkSpec Rows.fnTagsOkRow=true:=by unfold joinedFacts;rw[aZh,aYr,bCb];kernel_rfl
theorem over:Rows.fnTagsOkRow.holds Try.pinned (OpenSpec.ofChange Rows.fnTagsOkSpec):=
 OpenClaim.holds_of_wide 7 Try.f7 rfl rfl rfl rfl rfl rfl rfl ⟨rfl,rfl,rfl,rfl,rfl⟩ rfl rfl rfl rfl rfl (by kernel_rfl) Try.func7 bCe
  (of_decide_eq_true (by kernel_rfl)) (by unfold Func.isWrapper;first|(rw[if_pos (by decide+kernel)];kernel_rfl)|(rw[if_neg (by decide+kernel)];exact⟨rfl,rfl⟩))
  (λos started H enc _=>bBi os started H enc)
theorem proved:Rows.FnTagsOkSaid:=over
end fnTagsOk
end Go.Proofs.Ytkjabgefacfpfaa
