/- The plain functions: what they answer. -/
import Derived.Test.YtogfcdondojfeaaZY
import Derived.Test.YtogfcdondojfeaaWO1
import Derived.Test.YtogfcdondojfeaaWTO1
import Derived.Test.YtogfcdondojfeaaWH1
import Derived.Test.YtogfcdondojfeaaWETO1
import Derived.Test.YtogfcdondojfeaaWTF1
import Derived.Test.YtogfcdondojfeaaWETF1
import Derived.Test.YtogfcdondojfeaaWSI1
import Derived.Test.YtogfcdondojfeaaWD1
import Derived.Laws.Bits64
import Derived.Test.YtogfcdondojfeaaWGTO1
import Derived.Test.YtogfcdondojfeaaWFTO1
import Derived.Test.YtogfcdondojfeaaWGFT1
import Derived.Test.YtogfcdondojfeaaWFFT1
namespace Go.Proofs.Ytogfcdondojfeaa
set_option linter.all false
theorem getD_lt {α:Type} [Inhabited α] {xs:List α} {i:Nat} (h:i<xs.length):xs.getD i default=xs[i]:=by simp [List.getD,h]
namespace M
def inR (lo hi n:Int):Bool:=decide (lo≤n) && decide (n≤hi)
theorem inR_iff {lo hi n:Int}:inR lo hi n=true↔lo≤n∧n≤hi:=by simp [inR]
end M
theorem cond_bs {b y:Bool}:(cond b (some y) (some false))=some (b && y):=by cases b <;> rfl
theorem l1In_s (n lo hi:Int):F_spec_l1In n lo hi=some (M.inR lo hi n):=by
 unfold F_spec_l1In; rw [cond_bs]; rfl
end Go.Proofs.Ytogfcdondojfeaa
namespace Go.Proofs.Ytogfcdondojfeaa
set_option linter.all false
section
variable {T σ S R : Type} [Inhabited T]
theorem chk_loop {xs:List T} {step:S→Option (LO S R)} (enc:σ→Int→S) (p:T→Bool) (g:σ→T→σ) (fin:σ→R) (r:R) (Inv:Nat→σ→Prop)
 (hs:∀ (i:Nat) x s,(i:Int)<(xs.length:Int)→x ∈ xs→xs.getD i default=x→Inv i s→step (enc s i)=some (bif p x then .next (enc (g s x) ((i:Int)+1)) else .ret r)∧(p x=true→Inv (i+1) (g s x)))
 (he:∀ s,Inv xs.length s→step (enc s xs.length)=some (.ret (fin s))) (s:σ) (hi:Inv 0 s) :
 iter step (enc s 0)=some (.ret (bif xs.all p then fin (xs.foldl g s) else r))∧(xs.all p=true→Inv xs.length (xs.foldl g s)):=by
 have key:∀ (suf pre:List T) (s:σ),xs=pre ++ suf→Inv pre.length s→iter step (enc s pre.length)=some (.ret (bif suf.all p then fin (suf.foldl g s) else r))∧(suf.all p=true→Inv xs.length (suf.foldl g s)):=by
  intro suf
  induction suf with
  | nil =>
   intro pre s hx hi
   rw [List.append_nil] at hx
   subst hx
   rw [iter_eq,he s hi]; exact ⟨rfl,fun _=>hi⟩
  | cons x suf ih =>
   intro pre s hx hi
   obtain ⟨h1,h2⟩:=hs pre.length x s (by rw [hx]; simp; omega) (by rw [hx]; simp) (by rw [hx]; simp [List.getD]) hi
   rw [iter_eq,h1]
   cases hp:p x with
   | false=>simp [List.all_cons,hp]
   | true =>
    obtain ⟨g1,g2⟩:=ih (pre ++ [x]) (g s x) (by rw [hx]; simp) (by simpa using h2 hp)
    simp only [List.length_append,List.length_cons,List.length_nil,Nat.zero_add,Int.natCast_add] at g1
    simp only [cond_true,List.all_cons,hp,Bool.true_and,List.foldl_cons]
    exact ⟨g1,g2⟩
 simpa using key xs [] s rfl hi
theorem fold_loop {xs:List T} {step:S→Option (LO S R)} (enc:σ→Int→S) (g:σ→T→σ) (fin:σ→R) (Inv:Nat→σ→Prop)
 (hs:∀ (i:Nat) x s,(i:Int)<(xs.length:Int)→x ∈ xs→xs.getD i default=x→Inv i s→step (enc s i)=some (.next (enc (g s x) ((i:Int)+1)))∧Inv (i+1) (g s x))
 (he:∀ s,Inv xs.length s→step (enc s xs.length)=some (.ret (fin s))) (s:σ) (hi:Inv 0 s) :
 iter step (enc s 0)=some (.ret (fin (xs.foldl g s)))∧Inv xs.length (xs.foldl g s):=by
 have h:=chk_loop (p:=fun _=>true) enc g fin (fin s) Inv (fun i x s h1 h2 h3 h4=>⟨(hs i x s h1 h2 h3 h4).1,fun _=>(hs i x s h1 h2 h3 h4).2⟩) he s hi
 have e:xs.all (fun _=>true)=true:=by simp
 rw [e] at h
 exact ⟨h.1,h.2 rfl⟩
theorem count_loop {n:Nat} {step:S→Option (LO S R)} (enc:σ→Int→S) (g:σ→Nat→σ) (fin:σ→R) (Inv:Nat→σ→Prop)
 (hs:∀ (i:Nat) s,i<n→Inv i s→step (enc s i)=some (.next (enc (g s i) ((i:Int)+1)))∧Inv (i+1) (g s i))
 (he:∀ s,Inv n s→step (enc s n)=some (.ret (fin s))) (s:σ) (hi:Inv 0 s) :
 iter step (enc s 0)=some (.ret (fin ((List.range n).foldl g s)))∧Inv n ((List.range n).foldl g s):=by
 have h:=fold_loop (xs:=List.range n) enc g fin Inv (fun i x s h1 h2 h3 h4=>by
  have hi:i<n:=by simpa using h1
  have:x=i:=by rw [← h3]; simp [List.getD,hi]
  subst this
  exact hs x s hi h4) (by simpa using he) s hi
 simpa using h
theorem walk_loop {n:Nat} {step:S→Option (LO S R)} (st:Nat→S) (ok:Nat→Bool) (a r:R)
 (hs:∀ (i:Nat),i<n→(∀ j,j<i→ok j=true)→step (st i)=some (bif ok i then .next (st (i+1)) else .ret r))
 (he:(∀ j,j<n→ok j=true)→step (st n)=some (.ret a)) :
 iter step (st 0)=some (.ret (bif (List.range n).all ok then a else r)):=by
 have key:∀ m i,i+m=n→(∀ j,j<i→ok j=true)→iter step (st i)=some (.ret (bif (List.range n).all ok then a else r)):=by
  intro m
  induction m with
  | zero =>
   intro i hi ho
   have:i=n:=by omega
   subst this
   have e:(List.range i).all ok=true:=by simp only [List.all_eq_true,List.mem_range]; exact ho
   rw [iter_eq,he ho,e]; rfl
  | succ m ih =>
   intro i hi ho
   rw [iter_eq,hs i (by omega) ho]
   cases e:ok i with
   | true =>
    refine ih (i+1) (by omega) ?_
    intro j hj
    by_cases h:j=i
    · rw [h,e]
    · exact ho j (by omega)
   | false =>
    have e2:(List.range n).all ok=false:=by
     rw [List.all_eq_false]
     exact ⟨i,by rw [List.mem_range]; omega,by rw [e]; simp⟩
    rw [e2]; rfl
 exact key n 0 (by omega) fun j hj=>by omega
end
end Go.Proofs.Ytogfcdondojfeaa
namespace Go.Proofs.Ytogfcdondojfeaa
set_option linter.all false
namespace M
def turnsOf (xs:List Int) (g:Int):Nat:=xs.countP fun x=>decide (x=g)
end M
theorem turnsOf_le {xs:List Int} {g:Int}:M.turnsOf xs g≤xs.length:=List.countP_le_length
theorem turnsOf_app {xs ys:List Int} {g:Int}:M.turnsOf (xs ++ ys) g=M.turnsOf xs g+M.turnsOf ys g:=List.countP_append
theorem turnsOf_step {xs:List Int} {g:Int} {i:Nat} (hi:i<xs.length):M.turnsOf (xs.take (i+1)) g=M.turnsOf (xs.take i) g+(bif decide (xs.getD i default=g) then 1 else 0):=by
 have e:xs.take (i+1)=xs.take i ++ [xs.getD i default]:=by
  rw [List.take_add_one,getD_lt hi,List.getElem?_eq_getElem hi]; rfl
 rw [e,turnsOf_app]
 congr 1
theorem turnsOf_i {xs:List Int} {g:Int} (h:xs.length≤1048576):F_impl_TurnsOf xs g=some (M.turnsOf xs g:Int):=by
 have key:=walk_loop (n:=xs.length) (step:=F_impl_TurnsOf_l2 xs g) (fun i=>((M.turnsOf (xs.take i) g:Int),(i:Int))) (fun _=>true) (.go (M.turnsOf xs g:Int)) (.go 0) (fun i hi _=>by
  have hl:=turnsOf_le (xs:=xs.take i) (g:=g)
  have h1:(i:Int)<(xs.length:Int):=by omega
  rw [List.length_take] at hl
  simp only [F_impl_TurnsOf_l2,decide_eq_true h1,cond_true]
  rw [grd_t ⟨by omega,h1⟩,Int.toNat_natCast,turnsOf_step hi,Int.natCast_add,w64_in (by omega) (by omega)]
  cases hb:decide (xs.getD i default=g) with
  | false=>simp only [cond_false,Option.bind_some,JO.run,F_impl_TurnsOf_j3]; rw [w64_in (by omega) (by omega)]; simp
  | true=>simp only [cond_true,Option.bind_some,JO.run,F_impl_TurnsOf_j3]; rw [w64_in (by omega) (by omega)]; rfl) (fun _=>by
  simp only [F_impl_TurnsOf_l2]; rw [decide_eq_false (by omega),cond_false,List.take_length])
 have e:(List.range xs.length).all (fun _=>true)=true:=by simp
 rw [e] at key
 unfold F_impl_TurnsOf
 show Option.bind (Option.bind (iter (F_impl_TurnsOf_l2 xs g) ((M.turnsOf (xs.take 0) g:Int),0)) LO.val) _=_
 rw [show ((0:Int))=((0:Nat):Int) from rfl,key]; rfl
theorem turnsOf_s {xs:List Int} {g:Int} (h:xs.length≤1048576):F_spec_TurnsOf xs g=some (M.turnsOf xs g:Int):=by
 have key:=walk_loop (n:=xs.length) (step:=F_spec_TurnsOf_l2 xs g) (fun i=>((M.turnsOf (xs.take i) g:Int),(i:Int))) (fun _=>true) (.go (M.turnsOf xs g:Int)) (.go 0) (fun i hi _=>by
  have hl:=turnsOf_le (xs:=xs.take i) (g:=g)
  have h1:(i:Int)<(xs.length:Int):=by omega
  rw [List.length_take] at hl
  simp only [F_spec_TurnsOf_l2,decide_eq_true h1,cond_true]
  rw [grd_t ⟨by omega,h1⟩,Int.toNat_natCast,turnsOf_step hi,Int.natCast_add,w64_in (by omega) (by omega)]
  cases hb:decide (xs.getD i default=g) with
  | false=>simp only [cond_false,Option.bind_some,JO.run,F_spec_TurnsOf_j3]; rw [w64_in (by omega) (by omega)]; simp
  | true=>simp only [cond_true,Option.bind_some,JO.run,F_spec_TurnsOf_j3]; rw [w64_in (by omega) (by omega)]; rfl) (fun _=>by
  simp only [F_spec_TurnsOf_l2]; rw [decide_eq_false (by omega),cond_false,List.take_length])
 have e:(List.range xs.length).all (fun _=>true)=true:=by simp
 rw [e] at key
 unfold F_spec_TurnsOf
 show Option.bind (Option.bind (iter (F_spec_TurnsOf_l2 xs g) ((M.turnsOf (xs.take 0) g:Int),0)) LO.val) _=_
 rw [show ((0:Int))=((0:Nat):Int) from rfl,key]; rfl
end Go.Proofs.Ytogfcdondojfeaa
namespace Go.Proofs.Ytogfcdondojfeaa
set_option linter.all false
theorem toIntS_eq {xs:List Int} (h:xs.length≤1048576):F_laws_toIntS xs=some xs:=by
 have key:∀ s:List Int × Int,(0≤s.2∧s.2≤(xs.length:Int)∧s.1.length=xs.length∧∀ i,i<s.2.toNat→s.1[i]?=xs[i]?)→iter (F_laws_toIntS_l2 xs) s=some (.ret (.go xs)):=by
  refine iter_rec _ (fun s=>xs.length - s.2.toNat) _ ?_
  rintro ⟨ys,k⟩ ⟨h0,h1,h2,h3⟩
  simp only at h0 h1 h2 h3
  by_cases hk:k<xs.length
  · refine .inl ⟨(ys.set k.toNat (xs.getD k.toNat default),k+1),?_,⟨by simp only; omega,by simp only; omega,by simpa using h2,?_⟩,by simp only; omega,rfl⟩
    · simp only [F_laws_toIntS_l2,decide_eq_true hk,cond_true,grd,h2]
      rw [if_pos ⟨h0,hk⟩,if_pos ⟨h0,hk⟩,w64_in (by omega) (by omega)]
    · intro j hj
      simp only at hj ⊢
      rw [List.getElem?_set]
      by_cases e:k.toNat=j
      · subst e; rw [if_pos rfl,if_pos (by omega),getD_lt (by omega),List.getElem?_eq_getElem (by omega)]
      · rw [if_neg e]; exact h3 j (by omega)
  · have hy:ys=xs:=by
     apply List.ext_getElem?
     intro j
     by_cases hj:j<xs.length
     · exact h3 j (by omega)
     · rw [List.getElem?_eq_none (by omega),List.getElem?_eq_none (by omega)]
    have hf:decide (k<(xs.length:Int))=false:=by simp; omega
    refine .inr ⟨?_,?_⟩
    · intro s'; simp only [F_laws_toIntS_l2,hf,cond_false]; simp
    · simp only [F_laws_toIntS_l2,hf,cond_false,hy]
 unfold F_laws_toIntS
 rw [grd_t ⟨by omega,by omega,by omega⟩,key _ ⟨by simp,by simp,by simp,by simp⟩]
 rfl
theorem eqIntS_eq {xs ys:List Int} (h:xs.length≤9223372036854775807):F_laws_eqIntS xs ys=some (decide (xs=ys)):=by
 unfold F_laws_eqIntS
 by_cases hl:xs.length=ys.length
 · have key:∀ k:Int,(0≤k∧k≤(xs.length:Int))→iter (F_laws_eqIntS_l2 xs ys) k=some (.ret (bif decide (xs.drop k.toNat=ys.drop k.toNat) then .go () else .out false)):=by
    refine iter_rec _ (fun k=>xs.length - k.toNat) _ ?_
    rintro k ⟨h0,h1⟩
    by_cases hk:k<xs.length
    · have e1:xs.drop k.toNat=xs.getD k.toNat default::xs.drop (k+1).toNat:=by
       rw [getD_lt (by omega),show (k+1).toNat=k.toNat+1 by omega]; exact List.drop_eq_getElem_cons (by omega)
      have e2:ys.drop k.toNat=ys.getD k.toNat default::ys.drop (k+1).toNat:=by
       rw [getD_lt (by omega),show (k+1).toNat=k.toNat+1 by omega]; exact List.drop_eq_getElem_cons (by omega)
      by_cases he:xs.getD k.toNat default=ys.getD k.toNat default
      · refine .inl ⟨k+1,?_,⟨by omega,by omega⟩,by omega,?_⟩
        · simp only [F_laws_eqIntS_l2,decide_eq_true hk,cond_true,grd]
          rw [if_pos ⟨h0,hk⟩,if_pos ⟨h0,by omega⟩,he,w64_in (by omega) (by omega)]
          simp
        · rw [e1,e2,he]; simp
      · have hf:(!decide (xs.getD k.toNat default=ys.getD k.toNat default))=true:=by rw [decide_eq_false he]; rfl
        refine .inr ⟨?_,?_⟩
        · intro s'
          simp only [F_laws_eqIntS_l2,decide_eq_true hk,cond_true,grd]
          rw [if_pos ⟨h0,hk⟩,if_pos ⟨h0,by omega⟩,hf]
          simp
        · simp only [F_laws_eqIntS_l2,decide_eq_true hk,cond_true,grd]
          rw [if_pos ⟨h0,hk⟩,if_pos ⟨h0,by omega⟩,hf,e1,e2]
          have:decide (xs.getD k.toNat default::xs.drop (k+1).toNat=ys.getD k.toNat default::ys.drop (k+1).toNat)=false:=decide_eq_false fun e=>he (List.cons.inj e).1
          rw [this]; rfl
    · have hk2:k=xs.length:=by omega
      subst hk2
      refine .inr ⟨?_,?_⟩
      · intro s'; simp [F_laws_eqIntS_l2]
      · simp [F_laws_eqIntS_l2,hl]
   rw [key 0 ⟨by omega,by omega⟩]
   have:decide ((xs.length:Int)=(ys.length:Int))=true:=by simp [hl]
   rw [this]
   by_cases e:xs=ys
   · subst e; simp [LO.val,JO.run,F_laws_eqIntS_j1]
   · simp [e,LO.val,JO.run]
 · have:decide ((xs.length:Int)=(ys.length:Int))=false:=by simp; omega
   rw [this]
   have e:xs≠ys:=fun e=>hl (by rw [e])
   simp [e]
end Go.Proofs.Ytogfcdondojfeaa
namespace Go.Proofs.Ytogfcdondojfeaa
set_option linter.all false
theorem exactTurnsOf {xs:List Int} {g:Int} (hf:xs.length≤9223372036854775807):F_laws_FnExactTurnsOf xs g=some true:=by
 unfold F_laws_FnExactTurnsOf
 by_cases hl:1048576<xs.length
 · rw [decide_eq_true (by omega)]; rfl
 · have hs:xs.length≤1048576:=by omega
   rw [decide_eq_false (by omega),cond_false]
   simp only [toIntS_eq hs,turnsOf_i hs,turnsOf_s hs,Option.bind_some,eqIntS_eq (xs:=xs) (ys:=xs) (by omega),decide_true,Bool.not_true,cond_false]
end Go.Proofs.Ytogfcdondojfeaa
namespace Go.Proofs.Ytogfcdondojfeaa
set_option linter.all false
namespace M
def at0 (xs:List Int) (i:Int):Int:=xs.getD i.toNat default
def nxt (w had:List Int) (b:Int) (k:Nat):Int:=bif decide (at0 w k=0) then b else bif decide (b = -1) then (k:Int) else bif decide (at0 had k*at0 w b<at0 had b*at0 w k) then (k:Int) else b
def best (w had:List Int):Int:=(List.range w.length).foldl (nxt w had) (-1)
def fair1 (w:List Int) (s:List Int × List Int) (_:Nat):List Int × List Int:=(s.1 ++ [best w s.2],s.2.set (best w s.2).toNat (at0 s.2 (best w s.2)+1))
def fairS (w:List Int) (n:Nat):List Int × List Int:=(List.range n).foldl (fair1 w) ([],List.replicate w.length 0)
def wOk (w:List Int):Bool:=decide (w.length≤3) && w.all fun x=>decide (0≤x) && decide (x≤9)
def pos (w:List Int):Bool:=w.any fun x=>decide (0<x)
def fairTurns (w:List Int) (n:Int):List Int:=bif wOk w && decide (0≤n) && decide (n≤200) && pos w then (fairS w n.toNat).1 else []
end M
structure Wts (w : List Int) : Prop where
 len:w.length≤3
 all:∀ j:Nat,j<w.length→0≤M.at0 w j∧M.at0 w j≤9
structure Had (w had : List Int) (n : Int) : Prop where
 len:had.length=w.length
 all:∀ j:Nat,j<w.length→0≤M.at0 had j∧M.at0 had j≤n
def Best (w had:List Int) (i:Nat) (s:Int):Prop:=(s = -1∧∀ j:Nat,j<i→M.at0 w j=0)∨(∃ b:Nat,s=b∧b<i∧0<M.at0 w b∧∀ j:Nat,j<i→0<M.at0 w j→M.at0 had b*M.at0 w j≤M.at0 had j*M.at0 w b)
theorem at0_mem {xs:List Int} {x:Int} (h:x ∈ xs):∃ j:Nat,j<xs.length∧M.at0 xs j=x:=by
 obtain ⟨j,hj,e⟩:=List.getElem_of_mem h
 exact ⟨j,hj,by unfold M.at0; rw [Int.toNat_natCast,getD_lt hj]; exact e⟩
theorem wts_of {w:List Int} (h:M.wOk w=true):Wts w:=by
 unfold M.wOk at h
 simp only [Bool.and_eq_true,decide_eq_true_eq,List.all_eq_true] at h
 refine ⟨h.1,fun j hj=>?_⟩
 unfold M.at0; rw [Int.toNat_natCast,getD_lt hj]
 exact h.2 _ (List.getElem_mem hj)
theorem cancel {a b c d e f:Int} (hb:0<d) (hk:0≤c) (hj:0≤e) (h1:a*d≤b*c) (h2:b*e≤f*d):a*e≤f*c:=by
 have g1:a*d*e≤b*c*e:=Int.mul_le_mul_of_nonneg_right h1 hj
 have g2:b*e*c≤f*d*c:=Int.mul_le_mul_of_nonneg_right h2 hk
 have e1:a*d*e=(a*e)*d:=by rw [Int.mul_assoc,Int.mul_comm d e,← Int.mul_assoc]
 have e2:b*c*e=b*e*c:=by rw [Int.mul_assoc,Int.mul_comm c e,← Int.mul_assoc]
 have e3:f*d*c=(f*c)*d:=by rw [Int.mul_assoc,Int.mul_comm d c,← Int.mul_assoc]
 rw [e1,e2] at g1; rw [e3] at g2
 exact Int.le_of_mul_le_mul_right (Int.le_trans g1 g2) hb
theorem best_step {w had:List Int} {n:Int} (W:Wts w) (H:Had w had n) {i:Nat} (hi:i<w.length) {s:Int} (hs:Best w had i s):Best w had (i+1) (M.nxt w had s i):=by
 have hw:=W.all i hi
 unfold M.nxt
 by_cases h0:M.at0 w i=0
 · rw [decide_eq_true h0,cond_true]
   rcases hs with ⟨e,h⟩ | ⟨b,e,hb,hp,h⟩
   · exact .inl ⟨e,fun j hj=>by by_cases ej:j=i; (· rw [ej]; exact h0); exact h j (by omega)⟩
   · exact .inr ⟨b,e,by omega,hp,fun j hj hq=>by by_cases ej:j=i; (· rw [ej,h0] at hq; exact absurd hq (by omega)); exact h j (by omega) hq⟩
 · rw [decide_eq_false h0,cond_false]
   rcases hs with ⟨e,h⟩ | ⟨b,e,hb,hp,h⟩
   · rw [decide_eq_true e,cond_true]
     refine .inr ⟨i,rfl,by omega,by omega,fun j hj hq=>?_⟩
     by_cases ej:j=i
     · rw [ej]; exact Int.le_refl _
     · rw [h j (by omega)] at hq; exact absurd hq (by omega)
   · subst e
     rw [decide_eq_false (by omega),cond_false]
     by_cases hl:M.at0 had i*M.at0 w b<M.at0 had b*M.at0 w i
     · rw [decide_eq_true hl,cond_true]
       refine .inr ⟨i,rfl,by omega,by omega,fun j hj hq=>?_⟩
       by_cases ej:j=i
       · rw [ej]; exact Int.le_refl _
       · exact cancel (d:=M.at0 w b) (b:=M.at0 had b) hp hw.1 (by omega) (by omega) (h j (by omega) hq)
     · rw [decide_eq_false hl,cond_false]
       refine .inr ⟨b,rfl,by omega,hp,fun j hj hq=>?_⟩
       by_cases ej:j=i
       · rw [ej]; omega
       · exact h j (by omega) hq
theorem prod_in {a b:Int} (a0:0≤a) (a1:a≤200) (b0:0≤b) (b1:b≤9):0≤a*b∧a*b≤1800:=by
 refine ⟨Int.mul_nonneg a0 b0,?_⟩
 have:=Int.mul_le_mul a1 b1 b0 (by omega)
 omega
theorem prod_w {a b:Int} (a0:0≤a) (a1:a≤200) (b0:0≤b) (b1:b≤9):w64 (a*b)=a*b:=by
 have:=prod_in a0 a1 b0 b1
 exact w64_in (by omega) (by omega)
theorem next_i {w had:List Int} (W:Wts w) (H:Had w had 200):F_impl_nextTurn w had=some (M.best w had)∧Best w had w.length (M.best w had):=by
 have key:=count_loop (n:=w.length) (step:=F_impl_nextTurn_l2 w had) (fun (s:Int) i=>(s,i)) (M.nxt w had) (fun s=>.go s) (fun i s=>Best w had i s) (fun i s hi hs=>by
  refine ⟨?_,best_step W H hi hs⟩
  have hw:=W.all i hi
  have hh:=H.all i hi
  have hl:=W.len
  have h1:(i:Int)<(w.length:Int):=by omega
  have ew:w.getD i default=M.at0 w i:=by unfold M.at0; rw [Int.toNat_natCast]
  have eh:had.getD i default=M.at0 had i:=by unfold M.at0; rw [Int.toNat_natCast]
  simp only [F_impl_nextTurn_l2,decide_eq_true h1,cond_true,Int.toNat_natCast,ew,eh]
  rw [grd_t ⟨by omega,h1⟩]
  unfold M.nxt
  by_cases h0:M.at0 w i=0
  · rw [decide_eq_true h0]; simp only [cond_true,Option.bind_some,JO.run,F_impl_nextTurn_j3]; rw [w64_in (by omega) (by omega)]
  · rw [decide_eq_false h0]
    rcases hs with ⟨e,h⟩ | ⟨b,e,hb,hp,h⟩
    · rw [decide_eq_true e]; simp only [cond_true,cond_false,Option.bind_some,JO.run,F_impl_nextTurn_j3]; rw [w64_in (by omega) (by omega)]
    · subst e
      have hwb:=W.all b (by omega)
      have hhb:=H.all b (by omega)
      have hbl:(b:Int)<(w.length:Int):=by omega
      have hln:=H.len
      rw [decide_eq_false (by omega:¬ ((b:Int) = -1))]
      simp only [cond_false]
      rw [grd_t ⟨by omega,by omega⟩,grd_t ⟨by omega,hbl⟩,grd_t ⟨by omega,by omega⟩,show w.getD (b:Int).toNat default=M.at0 w b from rfl,show had.getD (b:Int).toNat default=M.at0 had b from rfl,prod_w hh.1 hh.2 hwb.1 hwb.2,prod_w hhb.1 hhb.2 hw.1 hw.2]
      cases decide (M.at0 had i*M.at0 w b<M.at0 had b*M.at0 w i) <;> simp only [cond_true,cond_false,Option.bind_some,JO.run,F_impl_nextTurn_j3] <;> rw [w64_in (by omega) (by omega)]) (fun s _=>by
  simp only [F_impl_nextTurn_l2]; rw [decide_eq_false (by omega),cond_false]) (-1) (.inl ⟨rfl,fun j hj=>by omega⟩)
 refine ⟨?_,key.2⟩
 unfold F_impl_nextTurn
 show Option.bind (Option.bind (iter (F_impl_nextTurn_l2 w had) (-1,0)) LO.val) _=_
 rw [key.1]; rfl
theorem best_not {w had:List Int} (hp:M.pos w=true) {s:Int} (h:Best w had w.length s):∃ b:Nat,s=b∧b<w.length∧0<M.at0 w b∧∀ j:Nat,j<w.length→0<M.at0 w j→M.at0 had b*M.at0 w j≤M.at0 had j*M.at0 w b:=by
 rcases h with ⟨e,h⟩ | h
 · unfold M.pos at hp
   simp only [List.any_eq_true,decide_eq_true_eq] at hp
   obtain ⟨x,hx,h0⟩:=hp
   obtain ⟨j,hj,e2⟩:=at0_mem hx
   rw [h j hj] at e2; omega
 · exact h
theorem best_none {w had:List Int} (hp:M.pos w=false) {s:Int} (h:Best w had w.length s):s = -1:=by
 rcases h with ⟨e,h⟩ | ⟨b,e,hb,h0,_⟩
 · exact e
 · unfold M.pos at hp
   rw [List.any_eq_false] at hp
   have:=hp _ (List.getElem_mem hb)
   unfold M.at0 at h0
   rw [Int.toNat_natCast,getD_lt hb] at h0
   exact absurd h0 (by simpa using this)
theorem at0_set {xs:List Int} {b:Nat} {v:Int} (hb:b<xs.length) (j:Nat):M.at0 (xs.set b v) j=if j=b then v else M.at0 xs j:=by
 unfold M.at0
 simp only [Int.toNat_natCast,List.getD_eq_getElem?_getD,List.getElem?_set]
 by_cases e:b=j
 · subst e; simp [hb]
 · rw [if_neg e,if_neg fun h:j=b=>e h.symm]
theorem had_next {w had:List Int} {n:Int} (H:Had w had n) {b:Nat} (hb:b<w.length):Had w (had.set b (M.at0 had b+1)) (n+1):=by
 refine ⟨by rw [List.length_set]; exact H.len,fun j hj=>?_⟩
 rw [at0_set (by rw [H.len]; exact hb)]
 have h1:=H.all j hj
 have h2:=H.all b hb
 split <;> omega
structure FairAt (w : List Int) (n : Nat) (s : List Int × List Int) : Prop where
 had:Had w s.2 n
 len:s.1.length=n
theorem fairS_succ {w:List Int} {n:Nat}:M.fairS w (n+1)=M.fair1 w (M.fairS w n) n:=by
 unfold M.fairS
 rw [List.range_succ,List.foldl_append]; rfl
theorem best_at {w had:List Int} (W:Wts w) (hp:M.pos w=true) {n:Int} (hn:n≤200) (H:Had w had n):∃ b:Nat,M.best w had=b∧b<w.length∧0<M.at0 w b∧∀ j:Nat,j<w.length→0<M.at0 w j→M.at0 had b*M.at0 w j≤M.at0 had j*M.at0 w b :=
 best_not hp (next_i W ⟨H.len,fun j hj=>⟨(H.all j hj).1,Int.le_trans (H.all j hj).2 hn⟩⟩).2
theorem fair_at {w:List Int} (W:Wts w) (hp:M.pos w=true):∀ {n:Nat},n≤201→FairAt w n (M.fairS w n)
 | 0,_=>⟨⟨by simp [M.fairS],fun j hj=>by simp [M.fairS,M.at0,List.getD,hj]⟩,rfl⟩
 | n+1,hn=>by
  have h:=fair_at W hp (n:=n) (by omega)
  obtain ⟨b,e,hb,h0,_⟩:=best_at W hp (n:=n) (by omega) h.had
  rw [fairS_succ]
  unfold M.fair1
  rw [e,Int.toNat_natCast]
  exact ⟨had_next h.had hb,by simp [h.len]⟩
theorem weightsOk_i {w:List Int} (hl:w.length≤1048576):F_impl_weightsOk w=some (M.wOk w):=by
 unfold F_impl_weightsOk M.wOk
 by_cases h3:w.length≤3
 · rw [decide_eq_false (by omega),decide_eq_true h3,cond_false,Bool.true_and]
   have key:=chk_loop (xs:=w) (step:=F_impl_weightsOk_l2 w) (σ:=Unit) (fun _ i=>i) (fun x=>decide (0≤x) && decide (x≤9)) (fun _ _=>()) (fun _=>.go ()) (.out false) (fun _ _=>True) (fun i x s h1 h2 h3 h4=>by
    refine ⟨?_,fun _=>trivial⟩
    simp only [F_impl_weightsOk_l2,decide_eq_true h1,cond_true]
    rw [grd_t ⟨by omega,h1⟩,Int.toNat_natCast,h3]
    by_cases c1:x<0
    · rw [decide_eq_true c1,decide_eq_false (by omega:¬ 0≤x)]; rfl
    · rw [decide_eq_false c1,decide_eq_true (by omega:0≤x)]
      by_cases c2:9<x
      · rw [decide_eq_true c2,decide_eq_false (by omega:¬ x≤9)]; rfl
      · rw [decide_eq_false c2,decide_eq_true (by omega:x≤9)]; simp only [cond_false,cond_true,Bool.true_and]; rw [w64_in (by omega) (by omega)]) (fun s _=>by
    simp only [F_impl_weightsOk_l2]; rw [decide_eq_false (by omega),cond_false]) () trivial
   rw [key.1]
   cases w.all fun x=>decide (0≤x) && decide (x≤9) <;> rfl
 · rw [decide_eq_true (by omega),decide_eq_false h3]; rfl
theorem fairTurns_i {w:List Int} {n:Int} (hl:w.length≤1048576):F_impl_FairTurns w n=some (M.fairTurns w n):=by
 unfold F_impl_FairTurns M.fairTurns
 rw [weightsOk_i hl,Option.bind_some]
 cases hw:M.wOk w with
 | false=>rfl
 | true =>
  have W:=wts_of hw
  have h3:=W.len
  rw [Bool.not_true,cond_false,Bool.true_and]
  by_cases c1:n<0
  · rw [decide_eq_true c1,decide_eq_false (by omega:¬ 0≤n)]; rfl
  rw [decide_eq_false c1,decide_eq_true (by omega:0≤n),cond_false,Bool.true_and]
  by_cases c2:200<n
  · rw [decide_eq_true c2,decide_eq_false (by omega:¬ n≤200)]; rfl
  rw [decide_eq_false c2,decide_eq_true (by omega:n≤200),cond_false,Bool.true_and,grd_t ⟨by omega,by omega,by omega⟩,Int.toNat_natCast]
  have z0:Had w (List.replicate w.length 0) 0:=⟨by simp,fun j hj=>by simp [M.at0,List.getD,hj]⟩
  cases hp:M.pos w with
  | false =>
   have hb:M.best w (List.replicate w.length 0) = -1:=best_none hp (next_i W ⟨z0.len,fun j hj=>⟨(z0.all j hj).1,Int.le_trans (z0.all j hj).2 (by omega)⟩⟩).2
   rw [iter_eq]
   unfold F_impl_FairTurns_l3
   by_cases c:0<n
   · simp only [decide_eq_true c,cond_true]
     rw [(next_i W ⟨z0.len,fun j hj=>⟨(z0.all j hj).1,Int.le_trans (z0.all j hj).2 (by omega)⟩⟩).1,Option.bind_some,hb]; rfl
   · simp only [decide_eq_false c,cond_false]; rfl
  | true =>
   have key:=walk_loop (n:=n.toNat) (step:=F_impl_FairTurns_l3 w n) (fun i=>((M.fairS w i).1,(M.fairS w i).2,(i:Int))) (fun _=>true) (.go (M.fairS w n.toNat).1) (.go []) (fun i hi _=>by
    have hf:=fair_at W hp (n:=i) (by omega)
    have hH:Had w (M.fairS w i).2 200:=⟨hf.had.len,fun j hj=>⟨(hf.had.all j hj).1,by have:=(hf.had.all j hj).2; omega⟩⟩
    obtain ⟨b,e,hb,h0,_⟩:=best_at W hp (n:=i) (by omega) hf.had
    have hbb:=hf.had.all b hb
    have hln:=hf.had.len
    have hl1:=hf.len
    have h1:(i:Int)<n:=by omega
    simp only [F_impl_FairTurns_l3,decide_eq_true h1,cond_true]
    rw [(next_i W hH).1,Option.bind_some,e,decide_eq_false (by omega),cond_false,fairS_succ]
    unfold M.fair1
    rw [e]
    simp only [List.length_cons,List.length_nil,Int.toNat_natCast]
    rw [grd_t ⟨by omega,by omega⟩,grd_t ⟨by omega,by omega⟩,grd_t ⟨by omega,by omega⟩,show (M.fairS w i).2.getD b default=M.at0 (M.fairS w i).2 b by unfold M.at0; rw [Int.toNat_natCast],w64_in (by omega) (by omega),w64_in (by omega) (by omega)]; rfl) (fun _=>by
    simp only [F_impl_FairTurns_l3]; rw [decide_eq_false (by omega),cond_false])
   have e:(List.range n.toNat).all (fun _=>true)=true:=by simp
   rw [e] at key
   show Option.bind (Option.bind (iter (F_impl_FairTurns_l3 w n) ((M.fairS w 0).1,(M.fairS w 0).2,((0:Nat):Int))) LO.val) _=_
   rw [key]; rfl
end Go.Proofs.Ytogfcdondojfeaa
namespace Go.Proofs.Ytogfcdondojfeaa
set_option linter.all false
theorem next_s {w had out:List Int} {n:Int} (W:Wts w) (H:Had w had 200):iter (F_spec_FairTurns_l7 w (out,had,n)) ((-1:Int),(0:Int))=some (.ret (.go (M.best w had))):=by
 have key:=count_loop (n:=w.length) (step:=F_spec_FairTurns_l7 w (out,had,n)) (fun (s:Int) i=>(s,i)) (M.nxt w had) (fun s=>.go s) (fun i s=>Best w had i s) (fun i s hi hs=>by
  refine ⟨?_,best_step W H hi hs⟩
  have hw:=W.all i hi
  have hh:=H.all i hi
  have hl:=W.len
  have h1:(i:Int)<(w.length:Int):=by omega
  have ew:w.getD i default=M.at0 w i:=by unfold M.at0; rw [Int.toNat_natCast]
  have eh:had.getD i default=M.at0 had i:=by unfold M.at0; rw [Int.toNat_natCast]
  simp only [F_spec_FairTurns_l7,decide_eq_true h1,cond_true,Int.toNat_natCast,ew,eh]
  rw [grd_t ⟨by omega,h1⟩]
  unfold M.nxt
  by_cases h0:M.at0 w i=0
  · rw [decide_eq_true h0,decide_eq_false (by omega:¬ 0<M.at0 w i)]; simp only [cond_true,cond_false,Option.bind_some,JO.run,F_spec_FairTurns_j8]; rw [w64_in (by omega) (by omega)]
  · rw [decide_eq_false h0,decide_eq_true (by omega:0<M.at0 w i)]
    rcases hs with ⟨e,h⟩ | ⟨b,e,hb,hp,h⟩
    · rw [decide_eq_true e,decide_eq_true (by omega:s<0)]; simp only [cond_true,cond_false,Option.bind_some,JO.run,F_spec_FairTurns_j8]; rw [w64_in (by omega) (by omega)]
    · subst e
      have hwb:=W.all b (by omega)
      have hhb:=H.all b (by omega)
      have hbl:(b:Int)<(w.length:Int):=by omega
      have hln:=H.len
      rw [decide_eq_false (by omega:¬ ((b:Int) = -1)),decide_eq_false (by omega:¬ ((b:Int)<0))]
      simp only [cond_false,cond_true]
      rw [grd_t ⟨by omega,by omega⟩,grd_t ⟨by omega,hbl⟩,grd_t ⟨by omega,by omega⟩,grd_t ⟨by omega,h1⟩,show w.getD (b:Int).toNat default=M.at0 w b from rfl,show had.getD (b:Int).toNat default=M.at0 had b from rfl,prod_w hh.1 hh.2 hwb.1 hwb.2,prod_w hhb.1 hhb.2 hw.1 hw.2]
      cases decide (M.at0 had i*M.at0 w b<M.at0 had b*M.at0 w i) <;> simp only [cond_true,cond_false,Option.bind_some,JO.run,F_spec_FairTurns_j8] <;> rw [w64_in (by omega) (by omega)]) (fun s _=>by
  simp only [F_spec_FairTurns_l7]; rw [decide_eq_false (by omega),cond_false]) (-1) (.inl ⟨rfl,fun j hj=>by omega⟩)
 exact key.1
theorem fairTurns_s {w:List Int} {n:Int} (hl:w.length≤1048576):F_spec_FairTurns w n=some (M.fairTurns w n):=by
 unfold F_spec_FairTurns
 by_cases h3:w.length≤3
 · rw [decide_eq_false (by omega),cond_false,l1In_s,Option.bind_some]
   have key9:=chk_loop (xs:=w) (step:=F_spec_FairTurns_l9 w) (σ:=Unit) (fun _ i=>i) (fun x=>M.inR 0 9 x) (fun _ _=>()) (fun _=>.go ()) (.out []) (fun _ _=>True) (fun i x s h1 h2 h3 h4=>by
    refine ⟨?_,fun _=>trivial⟩
    simp only [F_spec_FairTurns_l9,decide_eq_true h1,cond_true]
    rw [grd_t ⟨by omega,h1⟩,Int.toNat_natCast,h3,l1In_s,Option.bind_some]
    cases M.inR 0 9 x with
    | false=>rfl
    | true=>simp only [Bool.not_true,cond_false,cond_true]; rw [w64_in (by omega) (by omega)]) (fun s _=>by
    simp only [F_spec_FairTurns_l9]; rw [decide_eq_false (by omega),cond_false]) () trivial
   have hall:(w.all fun x=>M.inR 0 9 x)=w.all fun x=>decide (0≤x) && decide (x≤9):=by
    congr 1
   have hok:M.wOk w=w.all fun x=>M.inR 0 9 x:=by unfold M.wOk; rw [decide_eq_true h3,Bool.true_and,hall]
   unfold M.fairTurns
   by_cases c:0≤n∧n≤200
   · rw [M.inR_iff.2 c,Bool.not_true,cond_false,key9.1,hok]
     cases hw:w.all fun x=>M.inR 0 9 x with
     | false=>rfl
     | true =>
      have W:=wts_of (hok.trans hw)
      rw [cond_true,decide_eq_true c.1,decide_eq_true c.2,Bool.true_and,Bool.true_and,Bool.true_and]
      simp only [Option.bind_some,LO.val,JO.run]
      unfold F_spec_FairTurns_j2
      rw [grd_t ⟨by omega,by omega,by omega⟩,Int.toNat_natCast]
      have z0:Had w (List.replicate w.length 0) 0:=⟨by simp,fun j hj=>by simp [M.at0,List.getD,hj]⟩
      have z2:Had w (List.replicate w.length 0) 200:=⟨z0.len,fun j hj=>⟨(z0.all j hj).1,Int.le_trans (z0.all j hj).2 (by omega)⟩⟩
      cases hp:M.pos w with
      | false =>
       have hb:M.best w (List.replicate w.length 0) = -1:=best_none hp (next_i W z2).2
       rw [iter_eq]
       unfold F_spec_FairTurns_l4
       by_cases c:0<n
       · simp only [decide_eq_true c,cond_true]
         rw [next_s W z2,hb]; rfl
       · simp only [decide_eq_false c,cond_false]; rfl
      | true =>
       have key:=walk_loop (n:=n.toNat) (step:=F_spec_FairTurns_l4 w n) (fun i=>((M.fairS w i).1,(M.fairS w i).2,(i:Int))) (fun _=>true) (.go (M.fairS w n.toNat).1) (.go []) (fun i hi _=>by
        have hf:=fair_at W hp (n:=i) (by omega)
        have hH:Had w (M.fairS w i).2 200:=⟨hf.had.len,fun j hj=>⟨(hf.had.all j hj).1,by have:=(hf.had.all j hj).2; omega⟩⟩
        obtain ⟨b,e,hb,h0,_⟩:=best_at W hp (n:=i) (by omega) hf.had
        have hbb:=hf.had.all b hb
        have hln:=hf.had.len
        have hl1:=hf.len
        have h1:(i:Int)<n:=by omega
        simp only [F_spec_FairTurns_l4,decide_eq_true h1,cond_true]
        rw [next_s W hH,Option.bind_some,e,fairS_succ]
        simp only [LO.val,JO.run,Option.bind_some,F_spec_FairTurns_j6]
        rw [decide_eq_false (by omega),cond_false]
        unfold M.fair1
        rw [e]
        simp only [List.length_cons,List.length_nil,Int.toNat_natCast]
        rw [grd_t ⟨by omega,by omega⟩,grd_t ⟨by omega,by omega⟩,grd_t ⟨by omega,by omega⟩,show (M.fairS w i).2.getD b default=M.at0 (M.fairS w i).2 b by unfold M.at0; rw [Int.toNat_natCast],w64_in (z:=M.at0 (M.fairS w i).2 b+1) (by omega) (by omega)]
        simp only [Option.bind_some,F_spec_FairTurns_j5]
        rw [w64_in (by omega) (by omega)]; rfl) (fun _=>by
        simp only [F_spec_FairTurns_l4]; rw [decide_eq_false (by omega),cond_false])
       have e:(List.range n.toNat).all (fun _=>true)=true:=by simp
       rw [e] at key
       show Option.bind (Option.bind (iter (F_spec_FairTurns_l4 w n) ((M.fairS w 0).1,(M.fairS w 0).2,((0:Nat):Int))) LO.val) _=_
       rw [key]; rfl
   · have ci:M.inR 0 200 n=false:=by
      cases h:M.inR 0 200 n with
      | false=>rfl
      | true=>exact absurd (M.inR_iff.1 h) c
     rw [ci]
     have:(M.wOk w && decide (0≤n) && decide (n≤200) && M.pos w)=false:=by
      by_cases c1:0≤n
      · rw [decide_eq_false (by omega:¬ n≤200),Bool.and_false,Bool.false_and]
      · rw [decide_eq_false c1,Bool.and_false,Bool.false_and,Bool.false_and]
     rw [this]; rfl
 · rw [decide_eq_true (by omega)]
   have:M.wOk w=false:=by unfold M.wOk; rw [decide_eq_false h3]; rfl
   unfold M.fairTurns
   rw [this]; rfl
theorem fair_len {w:List Int} {n:Int}:(M.fairTurns w n).length≤200:=by
 unfold M.fairTurns
 cases hb:M.wOk w && decide (0≤n) && decide (n≤200) && M.pos w with
 | false=>exact Nat.zero_le _
 | true =>
  simp only [Bool.and_eq_true,decide_eq_true_eq] at hb
  rw [cond_true,(fair_at (wts_of hb.1.1.1) hb.2 (n:=n.toNat) (by omega)).len]; omega
end Go.Proofs.Ytogfcdondojfeaa
namespace Go.Proofs.Ytogfcdondojfeaa
set_option linter.all false
def upFrom (k:Int) (n:Nat):List Int:=(List.range n).map fun (i:Nat)=>k+(i:Int)
theorem upFrom_len {k:Int} {n:Nat}:(upFrom k n).length=n:=by simp [upFrom]
theorem markIntS_eq {xs:List Int} {k:Int} (h:xs.length≤9007199254740992) (h0:0≤k) (h1:k≤9007199254740992):F_laws_markIntS xs k=some (upFrom k xs.length,k+xs.length):=by
 have key:∀ s:List Int × Int × Int,(0≤s.2.2∧s.2.2≤(xs.length:Int)∧s.2.1=k+s.2.2∧s.1.length=xs.length∧∀ i,i<s.2.2.toNat→s.1[i]?=some (k+i))→iter F_laws_markIntS_l2 s=some (.ret (.go (k+xs.length,upFrom k xs.length))):=by
  refine iter_rec _ (fun s=>xs.length - s.2.2.toNat) _ ?_
  rintro ⟨ys,q,i⟩ ⟨a0,a1,a2,a3,a4⟩
  simp only at a0 a1 a2 a3 a4
  by_cases hi:i<xs.length
  · refine .inl ⟨(ys.set i.toNat q,q+1,i+1),?_,⟨by simp only; omega,by simp only; omega,by simp only; omega,by simpa using a3,?_⟩,by simp only; omega,rfl⟩
    · simp only [F_laws_markIntS_l2,a3,decide_eq_true hi,cond_true,grd]
      rw [if_pos ⟨a0,hi⟩,w64_in (by omega) (by omega),w64_in (by omega) (by omega)]
    · intro j hj
      simp only at hj ⊢
      rw [List.getElem?_set]
      by_cases e:i.toNat=j
      · subst e; rw [if_pos rfl,if_pos (by omega)]; congr 1; omega
      · rw [if_neg e]; exact a4 j (by omega)
  · have hi2:i=xs.length:=by omega
    have hy:ys=upFrom k xs.length:=by
     apply List.ext_getElem?
     intro j
     by_cases hj:j<xs.length
     · rw [a4 j (by omega)]; simp [upFrom,hj]
     · rw [List.getElem?_eq_none (by omega),List.getElem?_eq_none (by rw [upFrom_len]; omega)]
    have hf:decide (i<(ys.length:Int))=false:=by simp; omega
    refine .inr ⟨?_,?_⟩
    · intro s'; simp only [F_laws_markIntS_l2,hf,cond_false]; simp
    · simp only [F_laws_markIntS_l2,hf,cond_false,a2,hi2,hy]
      rw [← hy,a3]; simp
 unfold F_laws_markIntS
 rw [key _ ⟨by simp,by simp,by simp,rfl,by simp⟩]
 rfl
theorem heldIntS_eq {n:Nat} {k:Int} (h:n≤9007199254740992) (h0:0≤k) (h1:k≤9007199254740992):F_laws_heldIntS (upFrom k n) k=some (k+n):=by
 have key:∀ s:Int × Int,(0≤s.2∧s.2≤(n:Int)∧s.1=k+s.2)→iter (F_laws_heldIntS_l2 (upFrom k n)) s=some (.ret (.go (k+n))):=by
  refine iter_rec _ (fun s=>n - s.2.toNat) _ ?_
  rintro ⟨q,i⟩ ⟨a0,a1,a2⟩
  simp only at a0 a1 a2
  by_cases hi:i<n
  · refine .inl ⟨(q+1,i+1),?_,⟨by simp only; omega,by simp only; omega,by simp only; omega⟩,by simp only; omega,rfl⟩
    have hl:i<((upFrom k n).length:Int):=by rw [upFrom_len]; exact hi
    have hg:(upFrom k n).getD i.toNat default=q:=by
     rw [getD_lt (by rw [upFrom_len]; omega)]; simp only [upFrom,List.getElem_map,List.getElem_range]; omega
    simp only [F_laws_heldIntS_l2,decide_eq_true hl,cond_true,grd]
    rw [if_pos ⟨a0,hl⟩,hg,w64_in (by omega) (by omega),w64_in (by omega) (by omega)]
    simp
  · have hf:decide (i<((upFrom k n).length:Int))=false:=by simp [upFrom_len]; omega
    refine .inr ⟨?_,?_⟩
    · intro s'; simp only [F_laws_heldIntS_l2,hf,cond_false]; simp
    · simp only [F_laws_heldIntS_l2,hf,cond_false,a2]
      rw [show i=n by omega]
 unfold F_laws_heldIntS
 rw [key _ ⟨by simp,by simp,by simp⟩]
 rfl
end Go.Proofs.Ytogfcdondojfeaa
namespace Go.Proofs.Ytogfcdondojfeaa
set_option linter.all false
theorem exactFairTurns {xs:List Int} {n:Int} (hf:xs.length≤9223372036854775807):F_laws_FnExactFairTurns xs n=some true:=by
 unfold F_laws_FnExactFairTurns
 by_cases hl:1048576<xs.length
 · rw [decide_eq_true (by omega)]; rfl
 · have hs:xs.length≤1048576:=by omega
   have hz:=fair_len (w:=xs) (n:=n)
   rw [decide_eq_false (by omega),cond_false]
   simp only [toIntS_eq hs,fairTurns_i hs,fairTurns_s hs,Option.bind_some,eqIntS_eq (xs:=xs) (ys:=xs) (by omega),eqIntS_eq (xs:=M.fairTurns xs n) (ys:=M.fairTurns xs n) (by omega),decide_true,Bool.not_true,cond_false,markIntS_eq (xs:=xs) (k:=1) (by omega) (by omega) (by omega),markIntS_eq (xs:=M.fairTurns xs n) (k:=1) (by omega) (by omega) (by omega),upFrom_len,heldIntS_eq (n:=(M.fairTurns xs n).length) (k:=1) (by omega) (by omega) (by omega)]
   rw [grd_t True.intro,decide_eq_false (by omega),cond_false,grd_t True.intro,decide_eq_false (by omega)]; rfl
end Go.Proofs.Ytogfcdondojfeaa
namespace Go.Proofs.Ytogfcdondojfeaa
set_option linter.all false
end Go.Proofs.Ytogfcdondojfeaa
namespace Go.Proofs.Ytogfcdondojfeaa
set_option linter.all false
noncomputable instance:DecidableEq DCore:=fun a b=>Classical.propDecidable (a=b)
noncomputable instance:DecidableEq DBare:=fun a b=>Classical.propDecidable (a=b)
namespace M
end M
structure SmallC (c : DCore) : Prop where
 regs:c.Regs.length≤1048576
structure SmallB (b : DBare) : Prop where
 c:SmallC b.C
 mem:b.Mem.length≤1048576
 i:b.In.length≤1048576
 o:b.Out.length≤1048576
end Go.Proofs.Ytogfcdondojfeaa
namespace Go.Proofs.Ytogfcdondojfeaa
set_option linter.all false
theorem sameInts_eq {xs ys:List Int} (h:xs.length≤9223372036854775806):F_laws_sameInts xs ys=some (decide (xs=ys)):=by
 unfold F_laws_sameInts
 by_cases hl:xs.length=ys.length
 · have key:∀ k:Int,(0≤k∧k≤(xs.length:Int))→iter (F_laws_sameInts_l2 xs ys) k=some (.ret (bif decide (xs.drop k.toNat=ys.drop k.toNat) then .go () else .out false)):=by
    refine iter_rec _ (fun k=>xs.length - k.toNat) _ ?_
    rintro k ⟨h0,h1⟩
    by_cases hk:k<xs.length
    · have e1:xs.drop k.toNat=xs.getD k.toNat default::xs.drop (k+1).toNat:=by
       rw [getD_lt (by omega),show (k+1).toNat=k.toNat+1 by omega]; exact List.drop_eq_getElem_cons (by omega)
      have e2:ys.drop k.toNat=ys.getD k.toNat default::ys.drop (k+1).toNat:=by
       rw [getD_lt (by omega),show (k+1).toNat=k.toNat+1 by omega]; exact List.drop_eq_getElem_cons (by omega)
      have es:F_laws_sameInts_l2 xs ys k=cond (!decide (xs.getD k.toNat default=ys.getD k.toNat default)) (some (.ret (.out false))) (some (.next (k+1))):=by
       unfold F_laws_sameInts_l2
       rw [decide_eq_true hk,cond_true,grd_t ⟨h0,hk⟩,grd_t ⟨h0,by omega⟩,w64_in (by omega) (by omega)]
      by_cases he:xs.getD k.toNat default=ys.getD k.toNat default
      · refine .inl ⟨k+1,by rw [es,decide_eq_true he]; rfl,⟨by omega,by omega⟩,by omega,?_⟩
        rw [e1,e2,he]; simp
      · refine .inr ⟨fun s'=>by rw [es,decide_eq_false he]; simp,?_⟩
        rw [es,decide_eq_false he,e1,e2]
        have:decide (xs.getD k.toNat default::xs.drop (k+1).toNat=ys.getD k.toNat default::ys.drop (k+1).toNat)=false:=decide_eq_false fun e=>he (List.cons.inj e).1
        rw [this]; rfl
    · have hk2:k=xs.length:=by omega
      subst hk2
      refine .inr ⟨?_,?_⟩
      · intro s'; simp [F_laws_sameInts_l2]
      · simp [F_laws_sameInts_l2,hl]
   rw [key 0 ⟨by omega,by omega⟩]
   have:decide ((xs.length:Int)=(ys.length:Int))=true:=by simp [hl]
   rw [this]
   by_cases e:xs=ys
   · subst e; simp [LO.val,JO.run,F_laws_sameInts_j1]
   · simp [e,LO.val,JO.run]
 · have:decide ((xs.length:Int)=(ys.length:Int))=false:=by simp; omega
   rw [this]
   have e:xs≠ys:=fun e=>hl (by rw [e])
   simp [e]
end Go.Proofs.Ytogfcdondojfeaa
namespace Go.Proofs.Ytogfcdondojfeaa
set_option linter.all false
theorem tmod_in {a b:Int} (ha:0≤a) (hb:0<b):0≤Int.tmod a b∧Int.tmod a b<b:=by
 rw [Int.tmod_eq_emod_of_nonneg ha]; exact ⟨Int.emod_nonneg _ (by omega),Int.emod_lt_of_pos _ hb⟩
theorem alive_t:F_laws_alive=some true:=rfl
def enc (e:DEntry):Int:=8*e.Page+(bif e.There then 1 else 0)+(bif e.Write then 2 else 0)+(bif e.User then 4 else 0)
end Go.Proofs.Ytogfcdondojfeaa
namespace Go.Proofs.Ytogfcdondojfeaa
set_option linter.all false
theorem i64_xor_nat (a b:Nat) (ha:a<9223372036854775808) (hb:b<9223372036854775808):bits .xor .i64 (a:Int) (b:Int)=((a ^^^ b:Nat):Int):=by
 have hx:a ^^^ b<2 ^ 63:=Nat.xor_lt_two_pow (by omega) (by omega)
 have h1:(BitVec.ofInt 64 (a:Int)).toNat=a:=by
  rw [BitVec.ofInt_natCast,BitVec.toNat_ofNat]; exact Nat.mod_eq_of_lt (by omega)
 have h2:(BitVec.ofInt 64 (b:Int)).toNat=b:=by
  rw [BitVec.ofInt_natCast,BitVec.toNat_ofNat]; exact Nat.mod_eq_of_lt (by omega)
 show IntKind.i64.wrap ((BitVec.ofInt 64 (a:Int) ^^^ BitVec.ofInt 64 (b:Int)).toNat:Int)=_
 rw [BitVec.toNat_xor,h1,h2]
 exact wrap_in (by omega) (by omega)
theorem xor_in {a b:Int} (a0:0≤a) (a1:a≤9223372036854775807) (b0:0≤b) (b1:b≤9223372036854775807):0≤bits .xor .i64 a b:=by
 obtain ⟨x,rfl⟩:=Int.eq_ofNat_of_zero_le a0
 obtain ⟨y,rfl⟩:=Int.eq_ofNat_of_zero_le b0
 rw [i64_xor_nat x y (by omega) (by omega)]
 omega
theorem byte_in {b:List Int} (hb:∀ x ∈ b,0≤x∧x≤255) (i:Nat):0≤b.getD i default∧b.getD i default≤255:=by
 by_cases h:i<b.length
 · rw [List.getD,List.getElem?_eq_getElem h]; exact hb _ (List.getElem_mem h)
 · rw [List.getD,List.getElem?_eq_none (by omega)]; exact ⟨by decide,by decide⟩
theorem pick_in {r:Dl20Rd} {n:Int} (hn:1≤n) (h0:0≤r.p) (h1:r.p≤1000000) (hb:∀ x ∈ r.b,0≤x∧x≤255):∃ v,F___spec_l20Rd__pick r n=some (⟨r.b,r.p+1⟩,v)∧0≤v∧v<n:=by
 unfold F___spec_l20Rd__pick
 have e1:w64 (r.p+1)=r.p+1:=w64_in (by omega) (by omega)
 rw [e1,show r.p+1 - 1=r.p by omega,w64_in (z:=r.p) (by omega) (by omega),decide_eq_false (show ¬ n<1 by omega),cond_false]
 by_cases hl:((r.b.length:Nat):Int)=0
 · rw [decide_eq_true hl]; exact ⟨_,rfl,by omega,by omega⟩
 · rw [decide_eq_false hl,cond_false]
   have hp:(0:Int)<((r.b.length:Nat):Int):=by omega
   have hn0:n≠0:=by omega
   by_cases hk:r.p<((r.b.length:Nat):Int)
   · rw [decide_eq_true hk,cond_true,grd_t ⟨h0,hk⟩,grd_t hn0]
     have g:=byte_in hb r.p.toNat
     rw [wrap_in (by omega) (by omega)]
     exact ⟨_,rfl,tmod_in g.1 (by omega)⟩
   · have e2:w64 (w64 (r.p*7)+3)=r.p*7+3:=by rw [w64_in (z:=r.p*7) (by omega) (by omega),w64_in (by omega) (by omega)]
     rw [decide_eq_false hk,cond_false,e2,grd_t hl,grd_t (tmod_in h0 hp),grd_t hl,grd_t (tmod_in (by omega) hp),grd_t hl,grd_t hn0]
     have g1:=byte_in hb (Int.toNat (Int.tmod r.p ((r.b.length:Nat):Int)))
     have g2:=byte_in hb (Int.toNat (Int.tmod (r.p*7+3) ((r.b.length:Nat):Int)))
     generalize r.b.getD (Int.toNat (Int.tmod r.p ((r.b.length:Nat):Int))) default=X at g1 ⊢
     generalize r.b.getD (Int.toNat (Int.tmod (r.p*7+3) ((r.b.length:Nat):Int))) default=Y at g2 ⊢
     have q:Int.tdiv r.p ((r.b.length:Nat):Int)=r.p / ((r.b.length:Nat):Int):=Int.tdiv_eq_ediv_of_nonneg h0
     have q0:0≤r.p / ((r.b.length:Nat):Int):=Int.ediv_nonneg h0 (by omega)
     have q1:r.p / ((r.b.length:Nat):Int)≤r.p:=Int.ediv_le_self _ h0
     rw [q]
     generalize r.p / ((r.b.length:Nat):Int)=Q at q0 q1 ⊢
     have k1:IntKind.wrap .i64 X=X:=wrap_in (by omega) (by omega)
     have k2:IntKind.wrap .i64 Y=Y:=wrap_in (by omega) (by omega)
     have k3:w64 (w64 (w64 (w64 (X*131)+w64 (Y*1117))+w64 (r.p*29))+w64 (w64 Q*53))=X*131+Y*1117+r.p*29+Q*53:=by
      rw [w64_in (z:=X*131) (by omega) (by omega),w64_in (z:=Y*1117) (by omega) (by omega),w64_in (z:=X*131+Y*1117) (by omega) (by omega),w64_in (z:=r.p*29) (by omega) (by omega),w64_in (z:=X*131+Y*1117+r.p*29) (by omega) (by omega),w64_in (z:=Q) (by omega) (by omega),w64_in (z:=Q*53) (by omega) (by omega),w64_in (by omega) (by omega)]
     rw [k1,k2,k3]
     have a0:0≤X*131+Y*1117+r.p*29+Q*53:=by omega
     have a1:X*131+Y*1117+r.p*29+Q*53≤9223372036854775807:=by omega
     generalize X*131+Y*1117+r.p*29+Q*53=A at a0 a1 ⊢
     have d:Int.tdiv A 64=A / 64:=Int.tdiv_eq_ediv_of_nonneg a0
     rw [d,w64_in (z:=A / 64) (by omega) (by omega)]
     exact ⟨_,rfl,tmod_in (xor_in a0 a1 (by omega) (by omega)) (by omega)⟩
structure Rdr (m : Int) (r : Dl20Rd) : Prop where
 b:∀ x ∈ r.b,0≤x∧x≤255
 p0:0≤r.p
 p1:r.p≤m
theorem Rdr.up {m n:Int} {r:Dl20Rd} (h:Rdr m r) (hn:m≤n):Rdr n r:=⟨h.b,h.p0,Int.le_trans h.p1 hn⟩
theorem pick_d {m n:Int} {r:Dl20Rd} (R:Rdr m r) (hm:m≤1000000) (hn:1≤n):Ex (F___spec_l20Rd__pick r n) (fun v=>Rdr (m+1) v.1∧0≤v.2∧v.2<n):=by
 obtain ⟨b,p0,p1⟩:=R
 obtain ⟨v,h1,h2,h3⟩:=pick_in hn p0 (by omega) b
 exact ⟨_,h1,⟨b,by show 0≤r.p+1; omega,by show r.p+1≤m+1; omega⟩,h2,h3⟩
theorem open_d {xs:List Int} (h:∀ x ∈ xs,0≤x∧x≤255):Ex (F_spec_l20Open xs) (fun r=>Rdr 0 r):=by
 unfold F_spec_l20Open
 refine Ex.join (P:=fun s=>∀ x ∈ s,0≤x∧x≤255) ?_ fun s hs=>Ex.ret ⟨hs,Int.le_refl _,Int.le_refl _⟩
 refine Ex.cond (fun hc=>?_) fun hc=>Ex.ret ⟨_,rfl,h⟩
 have:=of_decide_eq_true hc
 exact Ex.grd ⟨by omega,by omega,by omega⟩ (Ex.ret ⟨_,rfl,fun x hx=>h x (List.mem_of_mem_drop (List.mem_of_mem_take hx))⟩)
end Go.Proofs.Ytogfcdondojfeaa
namespace Go.Proofs.Ytogfcdondojfeaa
set_option linter.all false
theorem turns_loop {m q:Int} (hm:m≤900000) (h0:0≤m) (hq:q≤100) (s:List Int × Int × List Int × Int) (hs:0≤s.2.2.2∧s.2.2.2≤q∧Rdr (m+2*(q - s.2.2.2)) ⟨s.1,s.2.1⟩∧(s.2.2.1.length:Int)+s.2.2.2≤q) :
 Ex (F_spec_l20Turns_l3 s) (fun o=>(∃ s',o = .next s'∧(0≤s'.2.2.2∧s'.2.2.2≤q∧Rdr (m+2*(q - s'.2.2.2)) ⟨s'.1,s'.2.1⟩∧(s'.2.2.1.length:Int)+s'.2.2.2≤q)∧s'.2.2.2.toNat<s.2.2.2.toNat)∨∃ t,o = .ret (.go t)∧(Rdr (m+2*q) ⟨t.2.1,t.2.2⟩∧(t.1.length:Int)≤q)):=by
 obtain ⟨b,p,ts,k⟩:=s
 obtain ⟨k0,k1,R,hl⟩:=hs
 simp only at k0 k1 R hl
 unfold F_spec_l20Turns_l3
 refine Ex.cond (fun hk=>?_) fun hk=>?_
 · have hk:0<k:=of_decide_eq_true hk
   refine Ex.bind (pick_d R (by omega) (by omega)) fun v4 ⟨R4,a4,b4⟩=>?_
   refine Ex.bind (pick_d R4 (by omega) (by omega)) fun v5 ⟨R5,a5,b5⟩=>?_
   refine Ex.grd ⟨by simp only [List.length_cons,List.length_nil]; omega,by simp only [List.length_cons,List.length_nil]; omega⟩ (Ex.ret (.inl ⟨_,rfl,⟨?_,?_,?_,?_⟩,?_⟩))
   all_goals simp only [w64_in (z:=k - 1) (by omega) (by omega),List.length_append,List.length_cons,List.length_nil]
   · omega
   · omega
   · exact R5.up (by omega)
   · omega
   · omega
 · have hk:¬ 0<k:=of_decide_eq_false hk
   exact Ex.ret (.inr ⟨_,rfl,R.up (by omega),by show (ts.length:Int)≤q; omega⟩)
theorem turns_d {m n:Int} {r:Dl20Rd} (R:Rdr m r) (h0:0≤m) (hm:m≤800000) (hn:0≤n) (hn2:n≤100):Ex (F_spec_l20Turns r n) (fun v=>Rdr (m+300) v.1∧(v.2.length:Int)≤n):=by
 unfold F_spec_l20Turns
 rw [w64_in (z:=n+1) (by omega) (by omega)]
 refine Ex.join (P:=fun t:List Int × List Int × Int=>Rdr (m+300) ⟨t.2.1,t.2.2⟩∧(t.1.length:Int)≤n) ?_ fun s ⟨R1,hl⟩=>?_
 · refine Ex.bind (pick_d R (by omega) (by omega)) fun v2 ⟨R2,a2,b2⟩=>?_
   have key:=Ex.loopv (step:=F_spec_l20Turns_l3) (fun s:List Int × Int × List Int × Int=>0≤s.2.2.2∧s.2.2.2≤n∧Rdr (m+1+2*(n - s.2.2.2)) ⟨s.1,s.2.1⟩∧(s.2.2.1.length:Int)+s.2.2.2≤n) (fun s=>s.2.2.2.toNat) (fun t:List Int × List Int × Int=>Rdr (m+1+2*n) ⟨t.2.1,t.2.2⟩∧(t.1.length:Int)≤n) (s:=(v2.1.b,v2.1.p,([]:List Int),v2.2)) ⟨a2,by show v2.2≤n; omega,R2.up (by show m+1≤m+1+2*(n - v2.2); omega),by simp; omega⟩ (turns_loop (by omega) (by omega) hn2)
   exact key.mono fun o ⟨t,e,h1,h2⟩=>⟨t,e,h1.up (by omega),h2⟩
 · unfold F_spec_l20Turns_j1
   exact Ex.ret ⟨R1,hl⟩
theorem drawTurnsOf_d {xs:List Int} (hx:∀ x ∈ xs,0≤x∧x≤255):Ex (F_spec_DrawTurnsOf xs) (fun v=>v.1.length≤20):=by
 unfold F_spec_DrawTurnsOf
 refine Ex.bind (open_d hx) fun r R=>?_
 refine Ex.bind (turns_d R (by omega) (by omega) (by omega) (by omega)) fun v ⟨R2,hl⟩=>?_
 refine Ex.bind (pick_d R2 (by omega) (by omega)) fun v3 _=>?_
 exact Ex.ret (by show v.2.length≤20; omega)
theorem fnTurnsOf_e {xs:List Int} (hx:∀ x ∈ xs,0≤x∧x≤255):Ex (F_laws_FnTurnsOf xs) (fun b=>b=true):=by
 unfold F_laws_FnTurnsOf
 refine Ex.cond (fun _=>Ex.ret rfl) fun _=>?_
 refine Ex.bind (drawTurnsOf_d hx) fun v hl=>?_
 obtain ⟨ts,g⟩:=v
 have hl:ts.length≤20:=hl
 have hd:w64 (Int.tdiv ((ts.length:Nat):Int) 2)=((ts.length / 2:Nat):Int):=by rw [Int.tdiv_eq_ediv_of_nonneg (by omega),w64_in (by omega) (by omega)]; omega
 simp only [hd,Int.toNat_natCast,Int.toNat_zero,Nat.sub_zero,List.drop_zero]
 have e1:List.take (ts.length - ts.length / 2) (List.drop (ts.length / 2) ts)=List.drop (ts.length / 2) ts:=List.take_of_length_le (by rw [List.length_drop]; exact Nat.le_refl _)
 rw [e1]
 have l1:(List.drop (ts.length / 2) ts).length≤20:=by rw [List.length_drop]; omega
 have l2:(List.take (ts.length / 2) ts).length≤20:=by rw [List.length_take]; omega
 have ea:M.turnsOf (List.take (ts.length / 2) ts) g+M.turnsOf (List.drop (ts.length / 2) ts) g=M.turnsOf ts g:=by rw [← turnsOf_app,List.take_append_drop]
 have eb:M.turnsOf (List.drop (ts.length / 2) ts ++ List.take (ts.length / 2) ts) g=M.turnsOf ts g:=by rw [turnsOf_app,Nat.add_comm]; exact ea
 have hle:=turnsOf_le (xs:=ts) (g:=g)
 have ec:M.turnsOf [g] g=1:=by unfold M.turnsOf; simp
 rw [turnsOf_i (by omega),Option.bind_some]
 rw [turnsOf_s (by omega),turnsOf_i (xs:=List.take (ts.length / 2) ts) (by omega),turnsOf_i (xs:=List.drop (ts.length / 2) ts) (by omega),turnsOf_i (xs:=List.drop (ts.length / 2) ts ++ List.take (ts.length / 2) ts) (by rw [List.length_append]; omega),turnsOf_i (xs:=[g]) (by simp),eb,ec]
 have ew:w64 ((M.turnsOf (List.take (ts.length / 2) ts) g:Int)+(M.turnsOf (List.drop (ts.length / 2) ts) g:Int))=(M.turnsOf ts g:Int):=by rw [w64_in (by omega) (by omega)]; omega
 refine Ex.grd ⟨by omega,by omega,by omega⟩ (Ex.grd ⟨by omega,by omega⟩ (Ex.grd ⟨by omega,by omega,by omega⟩ (Ex.grd ⟨by omega,by omega⟩ ?_)))
 simp only [Option.bind_some,decide_true,cond_true]
 rw [grd_t ⟨by omega,by omega,by omega⟩,grd_t ⟨by omega,by omega,by omega⟩,ew]
 simp only [decide_true,cond_true]
 exact Ex.ret rfl
theorem fnTurnsOf_t {xs:List Int} (hx:∀ x ∈ xs,0≤x∧x≤255):F_laws_FnTurnsOf xs=some true:=by
 obtain ⟨b,h1,h2⟩:=fnTurnsOf_e hx
 rw [h1,h2]
end Go.Proofs.Ytogfcdondojfeaa
namespace Go.Proofs.Ytogfcdondojfeaa
set_option linter.all false
def Fair (w had:List Int):Prop:=∀ a b:Nat,a<w.length→b<w.length→0<M.at0 w a→0<M.at0 w b→M.at0 had b*M.at0 w a≤M.at0 had a*M.at0 w b+M.at0 w a
theorem fair_next {w had:List Int} (hl:had.length=w.length) (F:Fair w had) {c:Nat} (hc:c<w.length) (hm:∀ j:Nat,j<w.length→0<M.at0 w j→M.at0 had c*M.at0 w j≤M.at0 had j*M.at0 w c):Fair w (had.set c (M.at0 had c+1)):=fun a b ha hb h0 h1=>by
 rw [at0_set (by rw [hl]; exact hc),at0_set (by rw [hl]; exact hc)]
 by_cases eb:b=c
 · subst eb
   rw [if_pos rfl]
   have h:=hm a ha h0
   by_cases ea:a=b
   · subst ea; rw [if_pos rfl]; omega
   · rw [if_neg ea,Int.add_mul,Int.one_mul]; omega
 · rw [if_neg eb]
   have h:=F a b ha hb h0 h1
   by_cases ea:a=c
   · subst ea; rw [if_pos rfl,Int.add_mul,Int.one_mul]; omega
   · rw [if_neg ea]; exact h
theorem fair_fair {w:List Int} (W:Wts w) (hp:M.pos w=true):∀ {n:Nat},n≤200→Fair w (M.fairS w n).2
 | 0,_=>fun a b ha hb h0 h1=>by
  have z:∀ j:Nat,j<w.length→M.at0 (M.fairS w 0).2 j=0:=fun j hj=>by simp [M.fairS,M.at0,List.getD,hj]
  rw [z a ha,z b hb]; omega
 | n+1,hn=>by
  have h:=fair_at W hp (n:=n) (by omega)
  obtain ⟨b,e,hb,h0,hm⟩:=best_at W hp (n:=n) (by omega) h.had
  rw [fairS_succ]
  unfold M.fair1
  rw [e,Int.toNat_natCast]
  exact fair_next h.had.len (fair_fair W hp (by omega)) hb hm
theorem fairS_get {w:List Int} (W:Wts w) (hp:M.pos w=true) {i:Nat}:∀ {n:Nat},n≤200→i<n→(M.fairS w n).1.getD i default=M.best w (M.fairS w i).2
 | 0,_,hi=>by omega
 | n+1,hn,hi=>by
  have h:=(fair_at W hp (n:=n) (by omega)).len
  rw [fairS_succ]
  unfold M.fair1
  simp only [List.getD_eq_getElem?_getD]
  by_cases e:i=n
  · subst e; rw [List.getElem?_append_right (by omega),h]; simp
  · rw [List.getElem?_append_left (by omega),← List.getD_eq_getElem?_getD]; exact fairS_get W hp (by omega) (by omega)
theorem prod_in2 {a b:Int} (a0:0≤a) (a1:a≤201) (b0:0≤b) (b1:b≤9):0≤a*b∧a*b≤1809:=by
 refine ⟨Int.mul_nonneg a0 b0,?_⟩
 have:=Int.mul_le_mul a1 b1 b0 (by omega)
 omega
section
variable {w v2 had : List Int} {many : Int} {i c : Nat}
theorem fair_l12 (W:Wts w) (hc:v2.getD i default=(c:Int)) (hcl:c<w.length) (H:Had w had 199) (F:Fair w (had.set c (M.at0 had c+1))) {a:Nat} (ha:a<w.length):iter (F_laws_FnFairTurns_l12 (w,many) v2 (had,(i:Int)) (a:Int)) (0:Int)=some (.ret (.go ())):=by
 have H2:=had_next H hcl
 have hl:=H.len; have h3:=W.len
 have hcc:=H.all c hcl
 have key:=count_loop (n:=w.length) (step:=F_laws_FnFairTurns_l12 (w,many) v2 (had,(i:Int)) (a:Int)) (σ:=Unit) (fun _ k=>k) (fun _ _=>()) (fun _=>.go ()) (fun _ _=>True) (fun b s hb _=>by
  refine ⟨?_,trivial⟩
  have h1:(b:Int)<(w.length:Int):=by omega
  have wa:=W.all a ha; have wb:=W.all b hb
  have ya:=H2.all a ha; have yb:=H2.all b hb
  have pa:=prod_in2 (a:=M.at0 (had.set c (M.at0 had c+1)) a+1) (b:=M.at0 w b) (by omega) (by omega) wb.1 wb.2
  have pb:=prod_in (a:=M.at0 (had.set c (M.at0 had c+1)) b) (b:=M.at0 w a) yb.1 (by omega) wa.1 wa.2
  simp only [F_laws_FnFairTurns_l12,decide_eq_true h1,cond_true,Int.toNat_natCast,hc]
  have e1:had.getD c default=M.at0 had c:=by unfold M.at0; rw [Int.toNat_natCast]
  have e2:∀ (xs:List Int) (j:Nat),xs.getD j default=M.at0 xs j:=fun xs j=>by unfold M.at0; rw [Int.toNat_natCast]
  simp only [e2]
  rw [w64_in (z:=M.at0 had c+1) (by omega) (by omega),grd_t ⟨by omega,by omega⟩]
  by_cases h0:0<M.at0 w a
  · rw [decide_eq_true h0,cond_true,grd_t ⟨by omega,h1⟩]
    by_cases h5:0<M.at0 w b
    · have hf:=F a b ha hb h0 h5
      rw [decide_eq_true h5,cond_true,grd_t ⟨by omega,by omega⟩,grd_t ⟨by omega,by omega⟩,grd_t ⟨by omega,by omega⟩,grd_t ⟨by omega,h1⟩,grd_t ⟨by omega,by omega⟩,w64_in (z:=M.at0 (had.set c (M.at0 had c+1)) a+1) (by omega) (by omega),w64_in (z:=(M.at0 (had.set c (M.at0 had c+1)) a+1)*M.at0 w b) (by omega) (by omega),w64_in (z:=(M.at0 (had.set c (M.at0 had c+1)) a+1)*M.at0 w b+M.at0 w a) (by omega) (by omega),w64_in (z:=M.at0 (had.set c (M.at0 had c+1)) b*M.at0 w a) (by omega) (by omega),decide_eq_false (by rw [Int.add_mul,Int.one_mul]; omega)]
      simp only [cond_false,Option.bind_some,JO.run,F_laws_FnFairTurns_j13]; rw [w64_in (by omega) (by omega)]
    · rw [decide_eq_false h5]; simp only [cond_false,Option.bind_some,JO.run,F_laws_FnFairTurns_j13]; rw [w64_in (by omega) (by omega)]
  · rw [decide_eq_false h0]; simp only [cond_false,Option.bind_some,JO.run,F_laws_FnFairTurns_j13]; rw [w64_in (by omega) (by omega)]) (fun s _=>by
  simp only [F_laws_FnFairTurns_l12]; rw [decide_eq_false (by simp),cond_false]) () trivial
 exact key.1
theorem fair_l10 (W:Wts w) (hc:v2.getD i default=(c:Int)) (hcl:c<w.length) (H:Had w had 199) (F:Fair w (had.set c (M.at0 had c+1))):iter (F_laws_FnFairTurns_l10 (w,many) v2 (had,(i:Int))) (0:Int)=some (.ret (.go (had.set c (M.at0 had c+1)))):=by
 have h3:=W.len
 have hcc:=H.all c hcl
 have key:=count_loop (n:=w.length) (step:=F_laws_FnFairTurns_l10 (w,many) v2 (had,(i:Int))) (σ:=Unit) (fun _ k=>k) (fun _ _=>()) (fun _=>.go (had.set c (M.at0 had c+1))) (fun _ _=>True) (fun a s ha _=>by
  refine ⟨?_,trivial⟩
  have h1:(a:Int)<(w.length:Int):=by omega
  simp only [F_laws_FnFairTurns_l10,decide_eq_true h1,cond_true]
  rw [fair_l12 W hc hcl H F ha]
  simp only [Option.bind_some,LO.val,JO.run,F_laws_FnFairTurns_j11]; rw [w64_in (by omega) (by omega)]) (fun s _=>by
  simp only [F_laws_FnFairTurns_l10,Int.toNat_natCast,hc]
  rw [decide_eq_false (by simp),cond_false,show had.getD c default=M.at0 had c by unfold M.at0; rw [Int.toNat_natCast],w64_in (by omega) (by omega)]) () trivial
 exact key.1
end
theorem weights_loop {m q:Int} (hm:m≤900000) (h0:0≤m) (hq:q≤100) (s:List Int × Int × List Int × Int) (hs:0≤s.2.2.2∧s.2.2.2≤q∧Rdr (m+2*(q - s.2.2.2)) ⟨s.1,s.2.1⟩∧(s.2.2.1.length:Int)+s.2.2.2≤q) :
 Ex (F_spec_DrawFairTurns_l6 s) (fun o=>(∃ s',o = .next s'∧(0≤s'.2.2.2∧s'.2.2.2≤q∧Rdr (m+2*(q - s'.2.2.2)) ⟨s'.1,s'.2.1⟩∧(s'.2.2.1.length:Int)+s'.2.2.2≤q)∧s'.2.2.2.toNat<s.2.2.2.toNat)∨∃ t,o = .ret (.go t)∧(Rdr (m+2*q) ⟨t.1,t.2.1⟩∧(t.2.2.length:Int)≤q)):=by
 obtain ⟨b,p,ts,k⟩:=s
 obtain ⟨k0,k1,R,hl⟩:=hs
 simp only at k0 k1 R hl
 unfold F_spec_DrawFairTurns_l6
 refine Ex.cond (fun hk=>?_) fun hk=>?_
 · have hk:0<k:=of_decide_eq_true hk
   refine Ex.bind (pick_d R (by omega) (by omega)) fun v4 ⟨R4,a4,b4⟩=>?_
   refine Ex.bind (pick_d R4 (by omega) (by omega)) fun v5 ⟨R5,a5,b5⟩=>?_
   refine Ex.grd ⟨by simp only [List.length_cons,List.length_nil]; omega,by simp only [List.length_cons,List.length_nil]; omega⟩ (Ex.ret (.inl ⟨_,rfl,⟨?_,?_,?_,?_⟩,?_⟩))
   all_goals simp only [w64_in (z:=k - 1) (by omega) (by omega),List.length_append,List.length_cons,List.length_nil]
   · omega
   · omega
   · exact R5.up (by omega)
   · omega
   · omega
 · have hk:¬ 0<k:=of_decide_eq_false hk
   exact Ex.ret (.inr ⟨_,rfl,R.up (by omega),by show (ts.length:Int)≤q; omega⟩)
theorem drawFair_d {xs:List Int} (hx:∀ x ∈ xs,0≤x∧x≤255):Ex (F_spec_DrawFairTurns xs) (fun v=>v.1.length≤3):=by
 unfold F_spec_DrawFairTurns
 refine Ex.bind (open_d hx) fun r R=>?_
 refine Ex.join (P:=fun t:List Int × Int × List Int=>Rdr 100 ⟨t.1,t.2.1⟩∧(t.2.2.length:Int)≤3) ?_ fun s ⟨R1,hl⟩=>?_
 · refine Ex.bind (pick_d R (by omega) (by omega)) fun v2 ⟨R2,a2,b2⟩=>?_
   have key:=Ex.loopv (step:=F_spec_DrawFairTurns_l6) (fun s:List Int × Int × List Int × Int=>0≤s.2.2.2∧s.2.2.2≤3∧Rdr (1+2*(3 - s.2.2.2)) ⟨s.1,s.2.1⟩∧(s.2.2.1.length:Int)+s.2.2.2≤3) (fun s=>s.2.2.2.toNat) (fun t:List Int × Int × List Int=>Rdr (1+2*3) ⟨t.1,t.2.1⟩∧(t.2.2.length:Int)≤3) (s:=(v2.1.b,v2.1.p,([]:List Int),v2.2)) ⟨a2,by show v2.2≤3; omega,R2.up (by show 0+1≤1+2*(3 - v2.2); omega),by simp; omega⟩ (weights_loop (by omega) (by omega) (by omega))
   exact key.mono fun o ⟨t,e,h1,h2⟩=>⟨t,e,h1.up (by omega),h2⟩
 · unfold F_spec_DrawFairTurns_j2
   refine Ex.bind (pick_d R1 (by omega) (by omega)) fun v3 ⟨R3,_,_⟩=>?_
   refine Ex.bind (pick_d R3 (by omega) (by omega)) fun v4 _=>?_
   exact Ex.ret (by show s.2.2.length≤3; omega)
theorem fnFairTurns_e {xs:List Int} (hx:∀ x ∈ xs,0≤x∧x≤255):Ex (F_laws_FnFairTurns xs) (fun b=>b=true):=by
 unfold F_laws_FnFairTurns
 refine Ex.cond (fun _=>Ex.ret rfl) fun _=>?_
 refine Ex.bind (drawFair_d hx) fun v hl=>?_
 obtain ⟨w,many⟩:=v
 have hl:w.length≤3:=hl
 have hz:=fair_len (w:=w) (n:=many)
 have end_t:((M.fairTurns w many).length:Int)=many∨(M.fairTurns w many).length=0→Ex (F_laws_FnFairTurns_j5 (w,many) (M.fairTurns w many) ()) (fun b=>b=true):=fun h=>by
  unfold F_laws_FnFairTurns_j5
  rw [alive_t,Option.bind_some]
  rcases h with h | h
  · rw [decide_eq_true h]; exact Ex.ret rfl
  · by_cases e:((M.fairTurns w many).length:Int)=many
    · rw [decide_eq_true e]; exact Ex.ret rfl
    · rw [decide_eq_false e,decide_eq_true (by omega:((M.fairTurns w many).length:Int)=0)]; exact Ex.ret rfl
 simp only [fairTurns_i (w:=w) (n:=many) (by omega),fairTurns_s (w:=w) (n:=many) (by omega),Option.bind_some,sameInts_eq (xs:=M.fairTurns w many) (ys:=M.fairTurns w many) (by omega),decide_true,Bool.not_true,cond_false]
 refine Ex.grd ⟨by omega,by omega,by omega⟩ ?_
 rw [Int.toNat_natCast]
 cases hb:M.wOk w && decide (0≤many) && decide (many≤200) && M.pos w with
 | false =>
  have e0:M.fairTurns w many=[]:=by unfold M.fairTurns; rw [hb]; rfl
  rw [e0] at end_t ⊢
  have:iter (F_laws_FnFairTurns_l8 (w,many) []) (List.replicate w.length 0,(0:Int))=some (.ret (.go ())):=by
   rw [iter_eq]; rfl
  rw [this]
  exact end_t (.inr rfl)
 | true =>
  have e0:M.fairTurns w many=(M.fairS w many.toNat).1:=by unfold M.fairTurns; rw [hb]; rfl
  simp only [Bool.and_eq_true,decide_eq_true_eq] at hb
  obtain ⟨⟨⟨hw,n0⟩,n1⟩,hp⟩:=hb
  have W:=wts_of hw
  have hln:=(fair_at W hp (n:=many.toNat) (by omega)).len
  rw [e0] at end_t ⊢
  have key:=walk_loop (n:=many.toNat) (step:=F_laws_FnFairTurns_l8 (w,many) (M.fairS w many.toNat).1) (fun i=>((M.fairS w i).2,(i:Int))) (fun _=>true) (.go ()) (.out true) (fun i hi _=>by
   have hf:=fair_at W hp (n:=i) (by omega)
   obtain ⟨c,e,hc,h0,hm⟩:=best_at W hp (n:=i) (by omega) hf.had
   have hg:(M.fairS w many.toNat).1.getD i default=(c:Int):=by rw [fairS_get W hp (by omega) hi]; exact e
   have hln2:=hf.had.len
   have h1:(i:Int)<(((M.fairS w many.toNat).1.length:Nat):Int):=by omega
   have hF:Fair w ((M.fairS w i).2.set c (M.at0 (M.fairS w i).2 c+1)):=by
    have:=fair_fair W hp (n:=i+1) (by omega)
    rw [fairS_succ] at this; unfold M.fair1 at this; rw [e,Int.toNat_natCast] at this; exact this
   have hH:Had w (M.fairS w i).2 199:=⟨hln2,fun j hj=>⟨(hf.had.all j hj).1,by have:=(hf.had.all j hj).2; omega⟩⟩
   simp only [F_laws_FnFairTurns_l8,decide_eq_true h1,cond_true,Int.toNat_natCast,hg]
   rw [grd_t ⟨by omega,h1⟩,decide_eq_false (by omega),cond_false,grd_t ⟨by omega,h1⟩,decide_eq_false (by omega),cond_false,grd_t ⟨by omega,h1⟩,grd_t ⟨by omega,h1⟩,grd_t ⟨by omega,by omega⟩,grd_t ⟨by omega,by omega⟩,fair_l10 W hg hc hH hF]
   simp only [Option.bind_some,LO.val,JO.run,F_laws_FnFairTurns_j9]
   rw [w64_in (by omega) (by omega),fairS_succ]
   unfold M.fair1
   rw [e,Int.toNat_natCast]; rfl) (fun _=>by
   simp only [F_laws_FnFairTurns_l8]; rw [decide_eq_false (by omega),cond_false])
  have e:(List.range many.toNat).all (fun _=>true)=true:=by simp
  rw [e] at key
  have key:iter (F_laws_FnFairTurns_l8 (w,many) (M.fairS w many.toNat).1) (List.replicate w.length 0,(0:Int))=some (.ret (.go ())):=key
  rw [key]
  exact end_t (.inl (by omega))
theorem fnFairTurns_t {xs:List Int} (hx:∀ x ∈ xs,0≤x∧x≤255):F_laws_FnFairTurns xs=some true:=by
 obtain ⟨_,h,rfl⟩:=fnFairTurns_e hx; exact h
end Go.Proofs.Ytogfcdondojfeaa
