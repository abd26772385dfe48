/- For all arguments the law FnMoveBegin returns true, and its arguments read afterwards as they read before.
   Conditions: none beyond the row's own. -/
import Derived.Test.YtcgggihjcelmhaaRows
import Derived.Test.YtcgggihjcelmhaaLZ
import Derived.Test.YtcgggihjcelmhaaZY
import Derived.Test.YtcgggihjcelmhaaPMVB
namespace Go.Proofs.Ytcgggihjcelmhaa
set_option linter.all false
open Go.ChangeShapes Go.WideShapes Go.ChangeAt Go.RowKit
namespace fnMoveBegin
theorem own:ownKnob Try.prog.godebug=none:=by kernel_rfl
theorem bIb:laidOutB Try.prog=true:=by kernel_rfl
set_option maxRecDepth 100000 in
theorem bMq(os:Os)(started:os.Started)(H:Type)(enc:TypeId×Value->H):
 ReturnsInHanded {} Try.checked os 4 .any (Rows.fnMoveBeginSpec.pre6 enc Try.prog Try.f4 Rows.fnMoveBeginRow.domain false) (Rows.fnMoveBeginSpec.post enc Try.prog Try.f4 false true false false):=by
 refine aYn (C:=Try.checked) own started (by kernel_rfl) Try.func4 (ChangeSpec.witness6 (enc:=enc) (C:=Try.checked) false ⟨#[],#[.slice none 0 0],[]⟩ 8 (by kernel_rfl) (by kernel_rfl) (by kernel_rfl) (by kernel_rfl)) 4 rfl Try.underlying4 rfl (λds h=>by match ds,h with|[d0],_=>rfl) bIb (by kernel_rfl) ?_;intro W base args ds p hval hA hlt;rw[Try.params4]at hA hval;obtain⟨v0,vs0,d0,ds0,p0,q0,hargs,rfl,rfl,h0,r0⟩:=trodAll_cons hA;obtain⟨rfl,rfl,rfl⟩:=trodAll_nil r0;obtain rfl:args=#[v0]:=(by cases args;simp_all);obtain⟨x0,f0,o0,y0⟩:=aZl (n:=0) (β:=λ_ _=>⟨false,0,0,0⟩) (k:=8) (s:= .sl 1 [.u8]) Try.underlying22 (by kernel_rfl) (hval 0 22 v0 rfl rfl) h0;obtain⟨xs,e0,b0⟩:=bEb (c:=eI .u8) (p:=InB) (λr=>bMj) f0 o0;rw[e0]at y0;exact aZr (aBd (aNk b0.2)) (by simp only[aQ,AV.clean,bG cV,Bool.and_self]) (by simp only[RVt,bo];exact⟨_,_,rfl,y0,rfl⟩)
set_option maxRecDepth 100000 in
theorem bMp:joinedFacts Try.pinned.checked.prog 4 Try.f4 Rows.fnMoveBeginSpec Rows.fnMoveBeginRow=true:=by unfold joinedFacts;rw[bJe,bHo,bJp];kernel_rfl
theorem over:Rows.fnMoveBeginRow.holds Try.pinned (OpenSpec.ofChange Rows.fnMoveBeginSpec):=
 OpenClaim.holds_of_wide 4 Try.f4 rfl rfl rfl rfl rfl rfl rfl ⟨rfl,rfl,rfl,rfl,rfl⟩ rfl rfl rfl rfl rfl (by kernel_rfl) Try.func4 bMp
  (of_decide_eq_true (by kernel_rfl)) (by unfold Func.isWrapper;first|(rw[if_pos (by decide+kernel)];kernel_rfl)|(rw[if_neg (by decide+kernel)];exact⟨rfl,rfl⟩))
  (λos started H enc _=>bMq os started H enc)
theorem proved:Rows.FnMoveBeginSaid:=over
end fnMoveBegin
end Go.Proofs.Ytcgggihjcelmhaa
