/- For all arguments the law FnMoveOk returns true, and its arguments read afterwards as they read before.
   Conditions: none beyond the row's own. -/
import Derived.Test.YtcgggihjcelmhaaRows
import Derived.Test.YtcgggihjcelmhaaLZ
import Derived.Test.YtcgggihjcelmhaaZY
import Derived.Test.YtcgggihjcelmhaaPMVO
namespace Go.Proofs.Ytcgggihjcelmhaa
set_option linter.all false
open Go.ChangeShapes Go.WideShapes Go.ChangeAt Go.RowKit
namespace fnMoveOk
theorem own:ownKnob Try.prog.godebug=none:=by kernel_rfl
theorem bMz:laidOutB Try.prog=true:=by kernel_rfl
set_option maxRecDepth 100000 in
theorem bQi(os:Os)(started:os.Started)(H:Type)(enc:TypeId×Value->H):
 ReturnsInHanded {} Try.checked os 3 .any (Rows.fnMoveOkSpec.pre6 enc Try.prog Try.f3 Rows.fnMoveOkRow.domain false) (Rows.fnMoveOkSpec.post enc Try.prog Try.f3 false true false false):=by
 refine bEh (C:=Try.checked) own started (by kernel_rfl) Try.func3 (ChangeSpec.witness6 (enc:=enc) (C:=Try.checked) false ⟨#[],#[.slice none 0 0],[]⟩ 8 (by kernel_rfl) (by kernel_rfl) (by kernel_rfl) (by kernel_rfl)) 4 rfl Try.underlying4 rfl (λds h=>by match ds,h with|[d0],_=>rfl) bMz (by kernel_rfl) ?_;intro W base args ds p hval hA hlt;rw[Try.params3]at hA hval;obtain⟨v0,vs0,d0,ds0,p0,q0,hargs,rfl,rfl,h0,r0⟩:=trodAll_cons hA;obtain⟨rfl,rfl,rfl⟩:=trodAll_nil r0;obtain rfl:args=#[v0]:=(by cases args;simp_all);obtain⟨x0,f0,o0,y0⟩:=bGt (n:=0) (β:=λ_ _=>⟨false,0,0,0⟩) (k:=8) (s:= .sl 1 [.u8]) Try.underlying22 (by kernel_rfl) (hval 0 22 v0 rfl rfl) h0;obtain⟨xs,e0,b0⟩:=bIq (c:=eI .u8) (p:=InB) (λr=>bSf) f0 o0;rw[e0]at y0;exact bFs (aLs (bEe b0.2)) (by simp only[aX,AV.clean,bV dC,Bool.and_self]) (by simp only[RVt,bo];exact⟨_,_,rfl,y0,rfl⟩)
set_option maxRecDepth 100000 in
theorem bSr:joinedFacts Try.pinned.checked.prog 3 Try.f3 Rows.fnMoveOkSpec Rows.fnMoveOkRow=true:=by unfold joinedFacts;rw[bNu,bMw,bSj];kernel_rfl
theorem over:Rows.fnMoveOkRow.holds Try.pinned (OpenSpec.ofChange Rows.fnMoveOkSpec):=
 OpenClaim.holds_of_wide 3 Try.f3 rfl rfl rfl rfl rfl rfl rfl ⟨rfl,rfl,rfl,rfl,rfl⟩ rfl rfl rfl rfl rfl (by kernel_rfl) Try.func3 bSr
  (of_decide_eq_true (by kernel_rfl)) (by unfold Func.isWrapper;first|(rw[if_pos (by decide+kernel)];kernel_rfl)|(rw[if_neg (by decide+kernel)];exact⟨rfl,rfl⟩))
  (λos started H enc _=>bQi os started H enc)
theorem proved:Rows.FnMoveOkSaid:=over
end fnMoveOk
end Go.Proofs.Ytcgggihjcelmhaa
