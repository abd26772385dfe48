/- For all arguments the law FnFairTurns returns true, and its arguments read afterwards as they read before.
   Conditions: none beyond the row's own. -/
import Derived.Test.YtogfcdondojfeaaRows
import Derived.Test.YtogfcdondojfeaaLZ
import Derived.Test.YtogfcdondojfeaaZY
import Derived.Test.YtogfcdondojfeaaPVTF
namespace Go.Proofs.Ytogfcdondojfeaa
set_option linter.all false
open Go.ChangeShapes Go.WideShapes Go.ChangeAt Go.RowKit
namespace fnFairTurns
theorem own:ownKnob Try.prog.godebug=none:=by kernel_rfl
theorem laidOut:laidOutB Try.prog=true:=by kernel_rfl
set_option maxRecDepth 100000 in
theorem lifted (os:Os) (started:os.Started) (H:Type) (enc:TypeId × Value→H) :
 ReturnsInHanded {} Try.checked os 7 .any (Rows.fnFairTurnsSpec.pre6 enc Try.prog Try.f7 Rows.fnFairTurnsRow.domain false) (Rows.fnFairTurnsSpec.post enc Try.prog Try.f7 false true false false):=by
 refine law_lifted (C:=Try.checked) own started (by kernel_rfl) Try.func7
  (ChangeSpec.witness6 (enc:=enc) (C:=Try.checked) false ⟨#[],#[.slice none 0 0],[]⟩ 8 (by kernel_rfl) (by kernel_rfl) (by kernel_rfl) (by kernel_rfl)) 4 rfl Try.underlying4 rfl (fun ds h=>by match ds,h with | [d0],_=>rfl) laidOut (by kernel_rfl) ?_
 intro W base args ds p hval hA hlt
 rw [Try.params7] at hA hval
 obtain ⟨v0,vs0,d0,ds0,p0,q0,hargs,rfl,rfl,h0,r0⟩:=trodAll_cons hA
 obtain ⟨rfl,rfl,rfl⟩:=trodAll_nil r0
 obtain rfl:args = #[v0]:=by cases args; simp_all
 obtain ⟨x0,f0,o0,y0⟩:=arg_slice (n:=0) (β:=fun _ _=>⟨false,0,0⟩) (k:=8) (s:=.sl 1 [.u8]) Try.underlying22 (by kernel_rfl) (hval 0 22 v0 rfl rfl) h0
 obtain ⟨xs,e0,b0⟩:=fit_rows (c:=eI .u8) (p:=InB) (fun r=>fits_u) f0 o0
 rw [e0] at y0
 exact law_of_fn (laws_FnFairTurns_fn (fnFairTurns_t b0.2)) (by simp only [cleans,AV.clean,cleans_fl cl_eI,Bool.and_self]) (by simp only [RVt,bo]; exact ⟨_,_,rfl,y0,rfl⟩)
set_option maxRecDepth 100000 in
theorem closed:joinedFacts Try.pinned.checked.prog 7 Try.f7 Rows.fnFairTurnsSpec Rows.fnFairTurnsRow=true:=by
 unfold joinedFacts
 rw [w_enter,w_lifts,w_make]
 kernel_rfl
theorem over:Rows.fnFairTurnsRow.holds Try.pinned (OpenSpec.ofChange Rows.fnFairTurnsSpec) :=
 OpenClaim.holds_of_wide 7 Try.f7 rfl rfl rfl rfl rfl rfl rfl ⟨rfl,rfl,rfl,rfl,rfl⟩ rfl rfl rfl rfl rfl (by kernel_rfl) Try.func7 closed
  (of_decide_eq_true (by kernel_rfl)) (by unfold Func.isWrapper; first | (rw [if_pos (by decide +kernel)]; kernel_rfl) | (rw [if_neg (by decide +kernel)]; exact ⟨rfl,rfl⟩))
  (fun os started H enc _=>lifted os started H enc)
theorem proved:Rows.FnFairTurnsSaid:=over
end fnFairTurns
end Go.Proofs.Ytogfcdondojfeaa
