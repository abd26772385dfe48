/- The plain functions: what they answer. -/
import Derived.Test.YtbanbjdcgdmkaaaPUEE
import Derived.Test.YtbanbjdcgdmkaaaWGA1
import Derived.Test.YtbanbjdcgdmkaaaWFE1
namespace Go.Proofs.Ytbanbjdcgdmkaaa
set_option linter.all false
theorem drawEmulate_d {xs:List Int} (hx:∀ x ∈ xs,0≤x∧x≤255):Ex (F_spec_DrawHostEmulate xs) (fun v=>SmallH v.1):=by
 unfold F_spec_DrawHostEmulate
 refine Ex.bind (open_d hx) fun r R=>?_
 refine Ex.bind (full_d R (by omega) (by omega)) fun v ⟨R2,hs⟩=>?_
 refine Ex.bind (ins_d R2 (by omega)) fun v3 R3=>?_
 refine Ex.join (P:=fun s:List Int × Int × Int=>Rdr 12200 ⟨s.1,s.2.1⟩) ?_ fun s R4=>?_
 · refine Ex.bind (pick_d R3 (by omega) (by omega)) fun v6 ⟨R6,a6,b6⟩=>?_
   refine Ex.cond (fun _=>?_) fun _=>Ex.ret ⟨_,rfl,R6.up (by omega)⟩
   refine Ex.bind (pick_d R6 (by omega) (by omega)) fun v7 ⟨R7,a7,b7⟩=>?_
   exact Ex.grd ⟨a7,by omega⟩ (Ex.ret ⟨_,rfl,R7.up (by omega)⟩)
 · unfold F_spec_DrawHostEmulate_j4
   refine Ex.bind (at_d R4 (by omega)) fun v5 ⟨R5,e1,e2,_,_⟩=>?_
   rw [e1,e2]
   exact Ex.grd rfl (Ex.grd rfl (Ex.ret hs))
theorem fnHostEmulate_e {xs:List Int} (hx:∀ x ∈ xs,0≤x∧x≤255):Ex (F_laws_FnHostEmulate xs) (fun b=>b=true):=by
 have al:Ex (Option.bind F_laws_alive fun v=>some v) (fun b=>b=true):=Ex.bind (alive_d (Q:=fun b=>b=true) rfl) fun b hb=>Ex.ret hb
 unfold F_laws_FnHostEmulate
 refine Ex.cond (fun _=>Ex.ret rfl) fun _=>?_
 refine Ex.bind (drawEmulate_d hx) fun v hs=>?_
 obtain ⟨h,g,i⟩:=v
 have hs:SmallH h:=hs
 have hz:=emulate_small (g:=g) (i:=i) hs
 simp only [hostEmulate_i hs,hostEmulate_s hs,Option.bind_some,beq_self_eq_true,Bool.not_true,cond_false,sameHost_refl hz,hostOk_i hz,hostView_i hs,hostView_i hz]
 cases hb:(M.there h g && M.insKernel i) with
 | false =>
  have e:(M.emulate h g i).2=false:=by unfold M.emulate; rw [hb]; rfl
  rw [e]; exact al
 | true =>
  rw [Bool.and_eq_true] at hb
  have l:=there_live hs hb.1
  have e:M.emulate h g i=(M.withM h g (h.Guests.getD g.toNat default) (M.kdo (M.vw h.Words (h.Guests.getD g.toNat default)) i),true):=by unfold M.emulate; rw [hb.1,hb.2]; rfl
  generalize h.Guests.getD g.toNat default=x at l e
  have hbo:=emu_host l hb.2
  have hok:=withM_hok l hbo
  rw [e] at hz ⊢
  have hz:SmallH (M.withM h g x (M.kdo (M.vw h.Words x) i)):=hz
  simp only [Bool.not_true,cond_false]
  have hv:∀ k:Nat,k<3→(k:Int)≠g→M.hostView (M.withM h g x (M.kdo (M.vw h.Words x) i)) (k:Int)=M.hostView h (k:Int):=fun k hk hn=>view_other l hok rfl hk hn fun _=>rfl
  have hv2:=view_set l hok (y:=⟨x.Live,(M.kdo (M.vw h.Words x) i).C,x.Pages,(M.kdo (M.vw h.Words x) i).In,(M.kdo (M.vw h.Words x) i).Out⟩) l.live rfl
  rw [hOk_iff.2 hok,cond_true,views_loop hs hz hv,Option.bind_some,cond_true,host_view l,hv2]
  show Ex (Option.bind (F_laws_sameInts (M.mem h.Words x.Pages) (M.mem h.Words x.Pages)) fun v10=>some v10) _
  rw [sameInts_eq (by rw [mem_len]; omega),decide_eq_true rfl]
  exact Ex.ret rfl
theorem fnHostEmulate_t {xs:List Int} (hx:∀ x ∈ xs,0≤x∧x≤255):F_laws_FnHostEmulate xs=some true:=by
 obtain ⟨_,h,rfl⟩:=fnHostEmulate_e hx; exact h
end Go.Proofs.Ytbanbjdcgdmkaaa
