/- For all arguments the law FnMoveAll returns true, and its arguments read afterwards as they read before.
   Conditions: none beyond the row's own. -/
import Derived.Test.YtcgggihjcelmhaaGreatRows
import Derived.Test.YtcgggihjcelmhaaGreatLZ
import Derived.Test.YtcgggihjcelmhaaGreatZY
import Derived.Test.YtcgggihjcelmhaaGreatPMVA
namespace Go.Proofs.YtcgggihjcelmhaaGreat
set_option linter.all false
open Go.ChangeShapes Go.WideShapes Go.ChangeAt Go.RowKit
namespace fnMoveAll
theorem own:ownKnob Tryz.prog.godebug=none:=by kernel_rfl
theorem bYz:laidOutB Tryz.prog=true:=by kernel_rfl
set_option maxRecDepth 100000 in
theorem cBs(os:Os)(started:os.Started)(H:Type)(enc:TypeId×Value->H):
 ReturnsInHanded {} Tryz.checked os 5 .any (Rows.fnMoveAllSpec.pre6 enc Tryz.prog Tryz.f5 Rows.fnMoveAllRow.domain false) (Rows.fnMoveAllSpec.post enc Tryz.prog Tryz.f5 false true false false):=by
 refine bMq (C:=Tryz.checked) own started (by kernel_rfl) Tryz.func5 (ChangeSpec.witness6 (enc:=enc) (C:=Tryz.checked) false ⟨#[],#[.slice none 0 0],[]⟩ 8 (by kernel_rfl) (by kernel_rfl) (by kernel_rfl) (by kernel_rfl)) 4 rfl Tryz.underlying4 rfl (λds h=>by match ds,h with|[d0],_=>rfl) bYz (by kernel_rfl) ?_;intro W base args ds p hval hA hlt;rw[Tryz.params5]at hA hval;obtain⟨v0,vs0,d0,ds0,p0,q0,hargs,rfl,rfl,h0,r0⟩:=trodAll_cons hA;obtain⟨rfl,rfl,rfl⟩:=trodAll_nil r0;obtain rfl:args=#[v0]:=(by cases args;simp_all);obtain⟨x0,f0,o0,y0⟩:=bQd (n:=0) (β:=λ_ _=>⟨false,0,0,0⟩) (k:=8) (s:= .sl 1 [.u8]) Tryz.underlying22 (by kernel_rfl) (hval 0 22 v0 rfl rfl) h0;obtain⟨xs,e0,b0⟩:=bSu (c:=eI .u8) (p:=InB) (λr=>cCp) f0 o0;rw[e0]at y0;exact bQo (aNv (bGa b0.2)) (by simp only[aS,AV.clean,bL dB,Bool.and_self]) (by simp only[RVt,bo];exact⟨_,_,rfl,y0,rfl⟩)
set_option maxRecDepth 100000 in
theorem bZq:joinedFacts Tryz.pinned.checked.prog 5 Tryz.f5 Rows.fnMoveAllSpec Rows.fnMoveAllRow=true:=by unfold joinedFacts;rw[bXu,bXh,cBy];kernel_rfl
theorem over:Rows.fnMoveAllRow.holds Tryz.pinned (OpenSpec.ofChange Rows.fnMoveAllSpec):=
 OpenClaim.holds_of_wide 5 Tryz.f5 rfl rfl rfl rfl rfl rfl rfl ⟨rfl,rfl,rfl,rfl,rfl⟩ rfl rfl rfl rfl rfl (by kernel_rfl) Tryz.func5 bZq
  (of_decide_eq_true (by kernel_rfl)) (by unfold Func.isWrapper;first|(rw[if_pos (by decide+kernel)];kernel_rfl)|(rw[if_neg (by decide+kernel)];exact⟨rfl,rfl⟩))
  (λos started H enc _=>cBs os started H enc)
theorem proved:Rows.FnMoveAllSaid:=over
end fnMoveAll
end Go.Proofs.YtcgggihjcelmhaaGreat
