/- For all arguments the law FnTagDrop returns true, and its arguments read afterwards as they read before.
   Conditions: none beyond the row's own. -/
import Derived.Test.YtkjabgefacfpfaaRows
import Derived.Test.YtkjabgefacfpfaaLZ
import Derived.Test.YtkjabgefacfpfaaZY
import Derived.Test.YtkjabgefacfpfaaPVTD
namespace Go.Proofs.Ytkjabgefacfpfaa
set_option linter.all false
open Go.ChangeShapes Go.WideShapes Go.ChangeAt Go.RowKit
namespace fnTagDrop
theorem own:ownKnob Try.prog.godebug=none:=by kernel_rfl
theorem bAc:laidOutB Try.prog=true:=by kernel_rfl
set_option maxRecDepth 100000 in
theorem bCr(os:Os)(started:os.Started)(H:Type)(enc:TypeId×Value->H):
 ReturnsInHanded {} Try.checked os 9 .any (Rows.fnTagDropSpec.pre6 enc Try.prog Try.f9 Rows.fnTagDropRow.domain false) (Rows.fnTagDropSpec.post enc Try.prog Try.f9 false true false false):=by
 refine aRg (C:=Try.checked) own started (by kernel_rfl) Try.func9 (ChangeSpec.witness6 (enc:=enc) (C:=Try.checked) false ⟨#[],#[.slice none 0 0],[]⟩ 8 (by kernel_rfl) (by kernel_rfl) (by kernel_rfl) (by kernel_rfl)) 4 rfl Try.underlying4 rfl (λds h=>by match ds,h with|[d0],_=>rfl) bAc (by kernel_rfl) ?_;intro W base args ds p hval hA hlt;rw[Try.params9]at hA hval;obtain⟨v0,vs0,d0,ds0,p0,q0,hargs,rfl,rfl,h0,r0⟩:=trodAll_cons hA;obtain⟨rfl,rfl,rfl⟩:=trodAll_nil r0;obtain rfl:args=#[v0]:=(by cases args;simp_all);obtain⟨x0,f0,o0,y0⟩:=aSi (n:=0) (β:=λ_ _=>⟨false,0,0,0⟩) (k:=8) (s:= .sl 1 [.u8]) Try.underlying22 (by kernel_rfl) (hval 0 22 v0 rfl rfl) h0;obtain⟨xs,e0,b0⟩:=aXn (c:=eI .u8) (p:=InB) (λr=>bBy) f0 o0;rw[e0]at y0;exact aSg (aBd (aNf b0.2)) (by simp only[aT,AV.clean,cC dB,Bool.and_self]) (by simp only[RVt,bo];exact⟨_,_,rfl,y0,rfl⟩)
set_option maxRecDepth 100000 in
theorem bBn:joinedFacts Try.pinned.checked.prog 9 Try.f9 Rows.fnTagDropSpec Rows.fnTagDropRow=true:=by unfold joinedFacts;rw[bAe,aZu,bDq];kernel_rfl
theorem over:Rows.fnTagDropRow.holds Try.pinned (OpenSpec.ofChange Rows.fnTagDropSpec):=
 OpenClaim.holds_of_wide 9 Try.f9 rfl rfl rfl rfl rfl rfl rfl ⟨rfl,rfl,rfl,rfl,rfl⟩ rfl rfl rfl rfl rfl (by kernel_rfl) Try.func9 bBn
  (of_decide_eq_true (by kernel_rfl)) (by unfold Func.isWrapper;first|(rw[if_pos (by decide+kernel)];kernel_rfl)|(rw[if_neg (by decide+kernel)];exact⟨rfl,rfl⟩))
  (λos started H enc _=>bCr os started H enc)
theorem proved:Rows.FnTagDropSaid:=over
end fnTagDrop
end Go.Proofs.Ytkjabgefacfpfaa
