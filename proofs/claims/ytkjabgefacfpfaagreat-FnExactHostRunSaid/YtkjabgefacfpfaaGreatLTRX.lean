/- For all arguments the law FnExactHostRun returns true, and its arguments read afterwards as they read before.
   Conditions: none beyond the row's own. -/
import Derived.Test.YtkjabgefacfpfaaGreatRows
import Derived.Test.YtkjabgefacfpfaaGreatLZ
import Derived.Test.YtkjabgefacfpfaaGreatLH
import Derived.Test.YtkjabgefacfpfaaGreatPTRX
namespace Go.Proofs.YtkjabgefacfpfaaGreat
set_option linter.all false
open Go.ChangeShapes Go.WideShapes Go.ChangeAt Go.RowKit
namespace fnExactHostRun
theorem own:ownKnob Tryz.prog.godebug=none:=by kernel_rfl
theorem aQo:laidOutB Tryz.prog=true:=by kernel_rfl
set_option maxRecDepth 100000 in
theorem aWx(os:Os)(started:os.Started)(H:Type)(enc:TypeId×Value->H):
 ReturnsInHanded {} Tryz.checked os 7 .any (Rows.fnExactHostRunSpec.pre6 enc Tryz.prog Tryz.f7 Rows.fnExactHostRunRow.domain false) (Rows.fnExactHostRunSpec.post enc Tryz.prog Tryz.f7 false true false false):=by
 refine aNs (C:=Tryz.checked) own started (by kernel_rfl) Tryz.func7 (ChangeSpec.witness6 (enc:=enc) (C:=Tryz.checked) false ⟨#[],#[.agg #[.slice none 0 0,.slice none 0 0],.slice none 0 0],[]⟩ 8 (by kernel_rfl) (by kernel_rfl) (by kernel_rfl) (by kernel_rfl)) 4 rfl Tryz.underlying4 rfl (λds h=>by match ds,h with|[d0,d1],_=>rfl) aQo (by kernel_rfl) ?_;intro W base args ds p hval hA hlt;rw[Tryz.params7]at hA hval;obtain⟨v0,vs0,d0,ds0,p0,q0,hargs,rfl,rfl,h0,r0⟩:=trodAll_cons hA;obtain⟨v1,vs1,d1,ds1,p1,q1,hvs1,rfl,rfl,h1,r1⟩:=trodAll_cons r0;obtain⟨rfl,rfl,rfl⟩:=trodAll_nil r1;obtain rfl:args=#[v0,v1]:=(by cases args;simp_all);obtain⟨es0,f0,o0,y0⟩:=aYy (n:=0) (β:=λ_ _=>⟨false,0,0⟩) (k:=8) (ss:=aNl) Tryz.underlying56 (by kernel_rfl) (hval 0 56 v0 rfl rfl) h0;obtain⟨h,fs0,e0,b0,g0,-⟩:=aRt (ss:=[]) f0 o0;obtain rfl:=aNg g0;rw[e0,avs,List.append_nil]at y0;obtain⟨x1,f1,o1,y1⟩:=bGl (n:=0) (β:=λ_ _=>⟨false,0,0⟩) (k:=8) (s:= .sl 1 [.int]) Tryz.underlying23 (by kernel_rfl) (hval 1 23 v1 rfl rfl) h1;obtain⟨ts,e1,b1⟩:=tA (c:=eI .i64) (p:=InI) (λr=>aHn) f1 o1;rw[e1]at y1;exact aRi (aBg (aUm b0 b1.1)) (by simp only[bE,AV.clean,aX bI,Bool.and_self,aX uV]) (by simp only[RVt,bo];exact⟨_,_,rfl,y0,_,_,rfl,y1,rfl⟩)
set_option maxRecDepth 100000 in
theorem aTj:joinedFacts Tryz.pinned.checked.prog 7 Tryz.f7 Rows.fnExactHostRunSpec Rows.fnExactHostRunRow=true:=by unfold joinedFacts;rw[aZp,aZl,bHs];kernel_rfl
theorem over:Rows.fnExactHostRunRow.holds Tryz.pinned (OpenSpec.ofChange Rows.fnExactHostRunSpec):=
 OpenClaim.holds_of_wide 7 Tryz.f7 rfl rfl rfl rfl rfl rfl rfl ⟨rfl,rfl,rfl,rfl,rfl⟩ rfl rfl rfl rfl rfl (by kernel_rfl) Tryz.func7 aTj
  (of_decide_eq_true (by kernel_rfl)) (by unfold Func.isWrapper;first|(rw[if_pos (by decide+kernel)];kernel_rfl)|(rw[if_neg (by decide+kernel)];exact⟨rfl,rfl⟩))
  (λos started H enc _=>aWx os started H enc)
theorem proved:Rows.FnExactHostRunSaid:=over
end fnExactHostRun
end Go.Proofs.YtkjabgefacfpfaaGreat
