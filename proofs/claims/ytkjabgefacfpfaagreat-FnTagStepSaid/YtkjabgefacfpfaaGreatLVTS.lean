/- For all arguments the law FnTagStep returns true, and its arguments read afterwards as they read before.
   Conditions: none beyond the row's own. -/
import Derived.Test.YtkjabgefacfpfaaGreatRows
import Derived.Test.YtkjabgefacfpfaaGreatLZ
import Derived.Test.YtkjabgefacfpfaaGreatZY
import Derived.Test.YtkjabgefacfpfaaGreatPVTS
namespace Go.Proofs.YtkjabgefacfpfaaGreat
set_option linter.all false
open Go.ChangeShapes Go.WideShapes Go.ChangeAt Go.RowKit
namespace fnTagStep
theorem own:ownKnob Tryz.prog.godebug=none:=by kernel_rfl
theorem bPm:laidOutB Tryz.prog=true:=by kernel_rfl
set_option maxRecDepth 100000 in
theorem bTa(os:Os)(started:os.Started)(H:Type)(enc:TypeId×Value->H):
 ReturnsInHanded {} Tryz.checked os 9 .any (Rows.fnTagStepSpec.pre6 enc Tryz.prog Tryz.f9 Rows.fnTagStepRow.domain false) (Rows.fnTagStepSpec.post enc Tryz.prog Tryz.f9 false true false false):=by
 refine bEi (C:=Tryz.checked) own started (by kernel_rfl) Tryz.func9 (ChangeSpec.witness6 (enc:=enc) (C:=Tryz.checked) false ⟨#[],#[.slice none 0 0],[]⟩ 8 (by kernel_rfl) (by kernel_rfl) (by kernel_rfl) (by kernel_rfl)) 4 rfl Tryz.underlying4 rfl (λds h=>by match ds,h with|[d0],_=>rfl) bPm (by kernel_rfl) ?_;intro W base args ds p hval hA hlt;rw[Tryz.params9]at hA hval;obtain⟨v0,vs0,d0,ds0,p0,q0,hargs,rfl,rfl,h0,r0⟩:=trodAll_cons hA;obtain⟨rfl,rfl,rfl⟩:=trodAll_nil r0;obtain rfl:args=#[v0]:=(by cases args;simp_all);obtain⟨x0,f0,o0,y0⟩:=bKd (n:=0) (β:=λ_ _=>⟨false,0,0,0⟩) (k:=8) (s:= .sl 1 [.u8]) Tryz.underlying22 (by kernel_rfl) (hval 0 22 v0 rfl rfl) h0;obtain⟨xs,e0,b0⟩:=bKq (c:=eI .u8) (p:=InB) (λr=>bRa) f0 o0;rw[e0]at y0;exact bIb (aKl (aZw b0.2)) (by simp only[aY,AV.clean,bC cU,Bool.and_self]) (by simp only[RVt,bo];exact⟨_,_,rfl,y0,rfl⟩)
set_option maxRecDepth 100000 in
theorem bVa:joinedFacts Tryz.pinned.checked.prog 9 Tryz.f9 Rows.fnTagStepSpec Rows.fnTagStepRow=true:=by unfold joinedFacts;rw[bQh,bPc,bRx];kernel_rfl
theorem over:Rows.fnTagStepRow.holds Tryz.pinned (OpenSpec.ofChange Rows.fnTagStepSpec):=
 OpenClaim.holds_of_wide 9 Tryz.f9 rfl rfl rfl rfl rfl rfl rfl ⟨rfl,rfl,rfl,rfl,rfl⟩ rfl rfl rfl rfl rfl (by kernel_rfl) Tryz.func9 bVa
  (of_decide_eq_true (by kernel_rfl)) (by unfold Func.isWrapper;first|(rw[if_pos (by decide+kernel)];kernel_rfl)|(rw[if_neg (by decide+kernel)];exact⟨rfl,rfl⟩))
  (λos started H enc _=>bTa os started H enc)
theorem proved:Rows.FnTagStepSaid:=over
end fnTagStep
end Go.Proofs.YtkjabgefacfpfaaGreat
