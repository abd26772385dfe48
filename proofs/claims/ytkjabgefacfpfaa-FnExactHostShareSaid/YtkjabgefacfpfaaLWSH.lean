/- For all arguments the law FnExactHostShare returns true, and its arguments read afterwards as they read before.
   Conditions: none beyond the row's own. -/
import Derived.Test.YtkjabgefacfpfaaRows
import Derived.Test.YtkjabgefacfpfaaLZ
import Derived.Test.YtkjabgefacfpfaaLH
import Derived.Test.YtkjabgefacfpfaaPHI
namespace Go.Proofs.Ytkjabgefacfpfaa
set_option linter.all false
open Go.ChangeShapes Go.WideShapes Go.ChangeAt Go.RowKit
namespace fnExactHostShare
theorem own:ownKnob Try.prog.godebug=none:=by kernel_rfl
theorem uR:laidOutB Try.prog=true:=by kernel_rfl
set_option maxRecDepth 100000 in
theorem zV(os:Os)(started:os.Started)(H:Type)(enc:TypeId×Value->H):
 ReturnsInHanded {} Try.checked os 5 .any (Rows.fnExactHostShareSpec.pre6 enc Try.prog Try.f5 Rows.fnExactHostShareRow.domain false) (Rows.fnExactHostShareSpec.post enc Try.prog Try.f5 false true false false):=by
 refine xM (C:=Try.checked) own started (by kernel_rfl) Try.func5 (ChangeSpec.witness6 (enc:=enc) (C:=Try.checked) false ⟨#[],#[.agg #[.slice none 0 0,.slice none 0 0]],[]⟩ 8 (by kernel_rfl) (by kernel_rfl) (by kernel_rfl) (by kernel_rfl)) 4 rfl Try.underlying4 rfl (λds h=>by match ds,h with|[d0],_=>rfl) uR (by kernel_rfl) ?_;intro W base args ds p hval hA hlt;rw[Try.params5]at hA hval;obtain⟨v0,vs0,d0,ds0,p0,q0,hargs,rfl,rfl,h0,r0⟩:=trodAll_cons hA;obtain⟨rfl,rfl,rfl⟩:=trodAll_nil r0;obtain rfl:args=#[v0]:=(by cases args;simp_all);obtain⟨es0,f0,o0,y0⟩:=aXe (n:=0) (β:=λ_ _=>⟨false,0,0⟩) (k:=8) (ss:=aLy) Try.underlying46 (by kernel_rfl) (hval 0 46 v0 rfl rfl) h0;obtain⟨h,fs0,e0,b0,g0,-⟩:=aPr (ss:=[]) f0 o0;obtain rfl:=aMn g0;rw[e0,avs,List.append_nil]at y0;exact aAx (zS (aNt b0)) (by simp only[aV,AV.clean,aU bG,Bool.and_self,aU vA]) (by simp only[RVt,bo];exact⟨_,_,rfl,y0,rfl⟩)
set_option maxRecDepth 100000 in
theorem zD:joinedFacts Try.pinned.checked.prog 5 Try.f5 Rows.fnExactHostShareSpec Rows.fnExactHostShareRow=true:=by unfold joinedFacts;rw[aHp,aHv,aMq];kernel_rfl
theorem over:Rows.fnExactHostShareRow.holds Try.pinned (OpenSpec.ofChange Rows.fnExactHostShareSpec):=
 OpenClaim.holds_of_wide 5 Try.f5 rfl rfl rfl rfl rfl rfl rfl ⟨rfl,rfl,rfl,rfl,rfl⟩ rfl rfl rfl rfl rfl (by kernel_rfl) Try.func5 zD
  (of_decide_eq_true (by kernel_rfl)) (by unfold Func.isWrapper;first|(rw[if_pos (by decide+kernel)];kernel_rfl)|(rw[if_neg (by decide+kernel)];exact⟨rfl,rfl⟩))
  (λos started H enc _=>zV os started H enc)
theorem proved:Rows.FnExactHostShareSaid:=over
end fnExactHostShare
end Go.Proofs.Ytkjabgefacfpfaa
