/- For all arguments the law FnExactHostEmulate returns true, and its arguments read afterwards as they read before.
   Conditions: none beyond the row's own. -/
import Derived.Test.YtbanbjdcgdmkaaaRows
import Derived.Test.YtbanbjdcgdmkaaaLZ
import Derived.Test.YtbanbjdcgdmkaaaLH
import Derived.Test.YtbanbjdcgdmkaaaLI
import Derived.Test.YtbanbjdcgdmkaaaPUXE
namespace Go.Proofs.Ytbanbjdcgdmkaaa
set_option linter.all false
open Go.ChangeShapes Go.WideShapes Go.ChangeAt Go.RowKit
namespace fnExactHostEmulate
theorem own:ownKnob Try.prog.godebug=none:=by kernel_rfl
theorem laidOut:laidOutB Try.prog=true:=by kernel_rfl
set_option maxRecDepth 100000 in
theorem lifted (os:Os) (started:os.Started) (H:Type) (enc:TypeId × Value→H) :
 ReturnsInHanded {} Try.checked os 10 .any (Rows.fnExactHostEmulateSpec.pre6 enc Try.prog Try.f10 Rows.fnExactHostEmulateRow.domain false) (Rows.fnExactHostEmulateSpec.post enc Try.prog Try.f10 false true false false):=by
 refine law_lifted (C:=Try.checked) own started (by kernel_rfl) Try.func10
  (ChangeSpec.witness6 (enc:=enc) (C:=Try.checked) false ⟨#[],#[.agg #[.slice none 0 0,.slice none 0 0],.int .i64 0,.agg #[.int .i64 0,.int .i64 0,.int .i64 0]],[]⟩ 8 (by kernel_rfl) (by kernel_rfl) (by kernel_rfl) (by kernel_rfl)) 4 rfl Try.underlying4 rfl (fun ds h=>by match ds,h with | [d0,d1,d2],_=>rfl) laidOut (by kernel_rfl) ?_
 intro W base args ds p hval hA hlt
 rw [Try.params10] at hA hval
 obtain ⟨v0,vs0,d0,ds0,p0,q0,hargs,rfl,rfl,h0,r0⟩:=trodAll_cons hA
 obtain ⟨v1,vs1,d1,ds1,p1,q1,hvs1,rfl,rfl,h1,r1⟩:=trodAll_cons r0
 obtain ⟨v2,vs2,d2,ds2,p2,q2,hvs2,rfl,rfl,h2,r2⟩:=trodAll_cons r1
 obtain ⟨rfl,rfl,rfl⟩:=trodAll_nil r2
 obtain rfl:args = #[v0,v1,v2]:=by cases args; simp_all
 obtain ⟨es0,f0,o0,y0⟩:=arg_agg (n:=0) (β:=fun _ _=>⟨false,0,0⟩) (k:=8) (ss:=shHost) Try.underlying75 (by kernel_rfl) (hval 0 75 v0 rfl rfl) h0
 obtain ⟨h,fs0,e0,b0,g0,-⟩:=fits_host (ss:=[]) f0 o0
 obtain rfl:=fits_n g0
 rw [e0,avs,List.append_nil] at y0
 obtain ⟨g,i1,y1⟩:=arg_int (n:=0) (β:=fun _ _=>⟨false,0,0⟩) Try.underlying3 (hval 1 3 v1 rfl rfl) h1
 obtain ⟨es2,f2,o2,y2⟩:=arg_agg (n:=0) (β:=fun _ _=>⟨false,0,0⟩) (k:=8) (ss:=shIns) Try.underlying80 (by kernel_rfl) (hval 2 80 v2 rfl rfl) h2
 obtain ⟨i,fs2,e2,b2,g2,-⟩:=fits_ins (ss:=[]) f2 o2
 obtain rfl:=fits_n g2
 rw [e2,avs,List.append_nil] at y2
 exact law_of_fn (laws_FnExactHostEmulate_fn (exactHostEmulate (g:=g) (i:=i) b0)) (by simp only [cleans,AV.clean,cleans_fl cl_eI,Bool.and_self,cleans_fl cl_B_157,cl_C_45]) (by simp only [RVt,bo]; exact ⟨_,_,rfl,y0,_,_,rfl,y1,_,_,rfl,y2,rfl⟩)
set_option maxRecDepth 100000 in
theorem closed:joinedFacts Try.pinned.checked.prog 10 Try.f10 Rows.fnExactHostEmulateSpec Rows.fnExactHostEmulateRow=true:=by
 unfold joinedFacts
 rw [w_enter,w_lifts,w_make]
 kernel_rfl
theorem over:Rows.fnExactHostEmulateRow.holds Try.pinned (OpenSpec.ofChange Rows.fnExactHostEmulateSpec) :=
 OpenClaim.holds_of_wide 10 Try.f10 rfl rfl rfl rfl rfl rfl rfl ⟨rfl,rfl,rfl,rfl,rfl⟩ rfl rfl rfl rfl rfl (by kernel_rfl) Try.func10 closed
  (of_decide_eq_true (by kernel_rfl)) (by unfold Func.isWrapper; first | (rw [if_pos (by decide +kernel)]; kernel_rfl) | (rw [if_neg (by decide +kernel)]; exact ⟨rfl,rfl⟩))
  (fun os started H enc _=>lifted os started H enc)
theorem proved:Rows.FnExactHostEmulateSaid:=over
end fnExactHostEmulate
end Go.Proofs.Ytbanbjdcgdmkaaa
