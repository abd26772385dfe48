/- The plain functions: what they answer. -/
import Derived.Test.YtbanbjdcgdmkaaaZY
import Derived.Test.YtbanbjdcgdmkaaaWO1
import Derived.Test.YtbanbjdcgdmkaaaWH1
import Derived.Test.YtbanbjdcgdmkaaaWHO1
import Derived.Test.YtbanbjdcgdmkaaaWHT1
import Derived.Test.YtbanbjdcgdmkaaaWSO1
import Derived.Test.YtbanbjdcgdmkaaaWWK1
import Derived.Test.YtbanbjdcgdmkaaaWU1
import Derived.Test.YtbanbjdcgdmkaaaWHC1
import Derived.Test.YtbanbjdcgdmkaaaWKI1
import Derived.Test.YtbanbjdcgdmkaaaWKT1
import Derived.Test.YtbanbjdcgdmkaaaWHV1
import Derived.Test.YtbanbjdcgdmkaaaWHD1
import Derived.Test.YtbanbjdcgdmkaaaWHF1
import Derived.Test.YtbanbjdcgdmkaaaWSP1
import Derived.Test.YtbanbjdcgdmkaaaWSL1
import Derived.Test.YtbanbjdcgdmkaaaWHM1
import Derived.Test.YtbanbjdcgdmkaaaWHB1
import Derived.Test.YtbanbjdcgdmkaaaWI1
import Derived.Test.YtbanbjdcgdmkaaaWJ1
import Derived.Test.YtbanbjdcgdmkaaaWK1
import Derived.Test.YtbanbjdcgdmkaaaWSX1
import Derived.Test.YtbanbjdcgdmkaaaWD1
import Derived.Laws.Bits64
import Derived.Test.YtbanbjdcgdmkaaaWG1
import Derived.Test.YtbanbjdcgdmkaaaWGH1
import Derived.Test.YtbanbjdcgdmkaaaWGF1
import Derived.Test.YtbanbjdcgdmkaaaWGX1
import Derived.Test.YtbanbjdcgdmkaaaWEX1
namespace Go.Proofs.Ytbanbjdcgdmkaaa
set_option linter.all false
theorem getD_lt {α:Type} [Inhabited α] {xs:List α} {i:Nat} (h:i<xs.length):xs.getD i default=xs[i]:=by simp [List.getD,h]
namespace M
def inR (lo hi n:Int):Bool:=decide (lo≤n) && decide (n≤hi)
def wordOk (n:Int):Bool:=inR 0 4095 n
def wordsOk (xs:List Int):Bool:=xs.all wordOk
def memOk (xs:List Int):Bool:=decide (xs.length=64) && wordsOk xs
theorem inR_iff {lo hi n:Int}:inR lo hi n=true↔lo≤n∧n≤hi:=by simp [inR]
end M
theorem cond_b {b:Bool} {x:Option Bool} {y:Bool} (h:x=some y):(cond b x (some false))=some (b && y):=by cases b <;> simp [h]
theorem cond_bs {b y:Bool}:(cond b (some y) (some false))=some (b && y):=by cases b <;> rfl
theorem wordOk_i (n:Int):F_impl_WordOk n=some (M.wordOk n):=by
 unfold F_impl_WordOk; rw [cond_bs]; rfl
theorem l1In_s (n lo hi:Int):F_spec_l1In n lo hi=some (M.inR lo hi n):=by
 unfold F_spec_l1In; rw [cond_bs]; rfl
theorem wordOk_s (n:Int):F_spec_WordOk n=some (M.wordOk n):=by
 unfold F_spec_WordOk; rw [l1In_s]; rfl
theorem lt_le {a b:Int}:decide (a<b+1)=decide (a≤b):=by rw [decide_eq_decide]; omega
theorem all_loop {T:Type} [Inhabited T] {xs:List T} {Pf:T→Option Bool} {p:T→Bool} (hP:∀ x,Pf x=some (p x)) (hl:xs.length≤9223372036854775806) (step:Int→Option (LO Int (JO Unit Bool)))
 (hs:∀ k,step k=cond (decide (k<((List.length xs:Nat):Int))) (grd ((0:Int)≤k∧k<((List.length xs:Nat):Int)) (Option.bind (Pf (List.getD xs (Int.toNat k) default)) fun v=>cond (!v) (some (.ret (.out false))) (some (.next (w64 (k+(1:Int))))))) (some (.ret (.go ())))) :
 iter step 0=some (.ret (bif xs.all p then .go () else .out false)):=by
 have key:∀ k:Int,(0≤k∧k≤(xs.length:Int))→iter step k=some (.ret (bif (xs.drop k.toNat).all p then .go () else .out false)):=by
  refine iter_rec _ (fun k=>xs.length - k.toNat) _ ?_
  rintro k ⟨h0,h1⟩
  by_cases hk:k<xs.length
  · have e1:xs.drop k.toNat=xs.getD k.toNat default::xs.drop (k+1).toNat:=by
     rw [getD_lt (by omega),show (k+1).toNat=k.toNat+1 by omega]; exact List.drop_eq_getElem_cons (by omega)
    have hst:step k=cond (!p (xs.getD k.toNat default)) (some (.ret (.out false))) (some (.next (k+1))):=by
     rw [hs,decide_eq_true hk,cond_true,grd_t ⟨h0,hk⟩,hP,w64_in (by omega) (by omega)]; rfl
    cases hp:p (xs.getD k.toNat default) with
    | true =>
     refine .inl ⟨k+1,by rw [hst,hp]; rfl,⟨by omega,by omega⟩,by omega,?_⟩
     rw [e1,List.all_cons,hp,Bool.true_and]
    | false =>
     refine .inr ⟨fun s'=>by rw [hst,hp]; simp,?_⟩
     rw [hst,hp,e1,List.all_cons,hp]; rfl
  · have hk2:k=xs.length:=by omega
    have hf:decide (k<((List.length xs:Nat):Int))=false:=by simp; omega
    refine .inr ⟨fun s'=>by rw [hs,hf]; simp,?_⟩
    rw [hs,hf,hk2]; simp
 simpa using key 0 ⟨by omega,by omega⟩
theorem wordsOk_i {xs:List Int} (h:xs.length≤9223372036854775806):F_impl_wordsOk xs=some (M.wordsOk xs):=by
 unfold F_impl_wordsOk
 rw [all_loop wordOk_i h (F_impl_wordsOk_l2 xs) (fun k=>rfl)]
 simp only [M.wordsOk]
 cases xs.all M.wordOk <;> rfl
theorem memOk_len {xs:List Int} (h:M.memOk xs=true):xs.length=64:=by
 simp only [M.memOk,Bool.and_eq_true,decide_eq_true_eq] at h; exact h.1
theorem wordsOk_get {xs:List Int} (h:M.wordsOk xs=true) {i:Nat} (hi:i<xs.length):0≤xs.getD i default∧xs.getD i default≤4095:=by
 rw [getD_lt hi]
 exact M.inR_iff.1 (List.all_eq_true.1 h _ (List.getElem_mem hi))
theorem wordsOk_set {xs:List Int} (h:M.wordsOk xs=true) {i:Nat} {w:Int} (h0:0≤w) (h1:w≤4095):M.wordsOk (xs.set i w)=true:=by
 refine List.all_eq_true.2 fun x hx=>?_
 rcases List.mem_or_eq_of_mem_set hx with h2 | rfl
 · exact List.all_eq_true.1 h x h2
 · exact M.inR_iff.2 ⟨h0,h1⟩
end Go.Proofs.Ytbanbjdcgdmkaaa
namespace Go.Proofs.Ytbanbjdcgdmkaaa
set_option linter.all false
theorem toIntS_eq {xs:List Int} (h:xs.length≤1048576):F_laws_toIntS xs=some xs:=by
 have key:∀ s:List Int × Int,(0≤s.2∧s.2≤(xs.length:Int)∧s.1.length=xs.length∧∀ i,i<s.2.toNat→s.1[i]?=xs[i]?)→iter (F_laws_toIntS_l2 xs) s=some (.ret (.go xs)):=by
  refine iter_rec _ (fun s=>xs.length - s.2.toNat) _ ?_
  rintro ⟨ys,k⟩ ⟨h0,h1,h2,h3⟩
  simp only at h0 h1 h2 h3
  by_cases hk:k<xs.length
  · refine .inl ⟨(ys.set k.toNat (xs.getD k.toNat default),k+1),?_,⟨by simp only; omega,by simp only; omega,by simpa using h2,?_⟩,by simp only; omega,rfl⟩
    · simp only [F_laws_toIntS_l2,decide_eq_true hk,cond_true,grd,h2]
      rw [if_pos ⟨h0,hk⟩,if_pos ⟨h0,hk⟩,w64_in (by omega) (by omega)]
    · intro j hj
      simp only at hj ⊢
      rw [List.getElem?_set]
      by_cases e:k.toNat=j
      · subst e; rw [if_pos rfl,if_pos (by omega),getD_lt (by omega),List.getElem?_eq_getElem (by omega)]
      · rw [if_neg e]; exact h3 j (by omega)
  · have hy:ys=xs:=by
     apply List.ext_getElem?
     intro j
     by_cases hj:j<xs.length
     · exact h3 j (by omega)
     · rw [List.getElem?_eq_none (by omega),List.getElem?_eq_none (by omega)]
    have hf:decide (k<(xs.length:Int))=false:=by simp; omega
    refine .inr ⟨?_,?_⟩
    · intro s'; simp only [F_laws_toIntS_l2,hf,cond_false]; simp
    · simp only [F_laws_toIntS_l2,hf,cond_false,hy]
 unfold F_laws_toIntS
 rw [grd_t ⟨by omega,by omega,by omega⟩,key _ ⟨by simp,by simp,by simp,by simp⟩]
 rfl
theorem eqIntS_eq {xs ys:List Int} (h:xs.length≤9223372036854775807):F_laws_eqIntS xs ys=some (decide (xs=ys)):=by
 unfold F_laws_eqIntS
 by_cases hl:xs.length=ys.length
 · have key:∀ k:Int,(0≤k∧k≤(xs.length:Int))→iter (F_laws_eqIntS_l2 xs ys) k=some (.ret (bif decide (xs.drop k.toNat=ys.drop k.toNat) then .go () else .out false)):=by
    refine iter_rec _ (fun k=>xs.length - k.toNat) _ ?_
    rintro k ⟨h0,h1⟩
    by_cases hk:k<xs.length
    · have e1:xs.drop k.toNat=xs.getD k.toNat default::xs.drop (k+1).toNat:=by
       rw [getD_lt (by omega),show (k+1).toNat=k.toNat+1 by omega]; exact List.drop_eq_getElem_cons (by omega)
      have e2:ys.drop k.toNat=ys.getD k.toNat default::ys.drop (k+1).toNat:=by
       rw [getD_lt (by omega),show (k+1).toNat=k.toNat+1 by omega]; exact List.drop_eq_getElem_cons (by omega)
      by_cases he:xs.getD k.toNat default=ys.getD k.toNat default
      · refine .inl ⟨k+1,?_,⟨by omega,by omega⟩,by omega,?_⟩
        · simp only [F_laws_eqIntS_l2,decide_eq_true hk,cond_true,grd]
          rw [if_pos ⟨h0,hk⟩,if_pos ⟨h0,by omega⟩,he,w64_in (by omega) (by omega)]
          simp
        · rw [e1,e2,he]; simp
      · have hf:(!decide (xs.getD k.toNat default=ys.getD k.toNat default))=true:=by rw [decide_eq_false he]; rfl
        refine .inr ⟨?_,?_⟩
        · intro s'
          simp only [F_laws_eqIntS_l2,decide_eq_true hk,cond_true,grd]
          rw [if_pos ⟨h0,hk⟩,if_pos ⟨h0,by omega⟩,hf]
          simp
        · simp only [F_laws_eqIntS_l2,decide_eq_true hk,cond_true,grd]
          rw [if_pos ⟨h0,hk⟩,if_pos ⟨h0,by omega⟩,hf,e1,e2]
          have:decide (xs.getD k.toNat default::xs.drop (k+1).toNat=ys.getD k.toNat default::ys.drop (k+1).toNat)=false:=decide_eq_false fun e=>he (List.cons.inj e).1
          rw [this]; rfl
    · have hk2:k=xs.length:=by omega
      subst hk2
      refine .inr ⟨?_,?_⟩
      · intro s'; simp [F_laws_eqIntS_l2]
      · simp [F_laws_eqIntS_l2,hl]
   rw [key 0 ⟨by omega,by omega⟩]
   have:decide ((xs.length:Int)=(ys.length:Int))=true:=by simp [hl]
   rw [this]
   by_cases e:xs=ys
   · subst e; simp [LO.val,JO.run,F_laws_eqIntS_j1]
   · simp [e,LO.val,JO.run]
 · have:decide ((xs.length:Int)=(ys.length:Int))=false:=by simp; omega
   rw [this]
   have e:xs≠ys:=fun e=>hl (by rw [e])
   simp [e]
end Go.Proofs.Ytbanbjdcgdmkaaa
namespace Go.Proofs.Ytbanbjdcgdmkaaa
set_option linter.all false
theorem szIntS_eq {xs:List Int} {left:Int} (h:xs.length≤9223372036854775807) (h0:0≤left) (h1:left≤1048576):F_laws_szIntS xs left=some (if (xs.length:Int)≤left then left - xs.length else -1):=by
 unfold F_laws_szIntS
 rw [w64_in (by omega) (by omega)]
 by_cases hl:(xs.length:Int)≤left
 · have:decide (left - (xs.length:Int)<0)=false:=by simp; omega
   rw [this,if_pos hl]; rfl
 · have:decide (left - (xs.length:Int)<0)=true:=by simp; omega
   rw [this,if_neg hl]; rfl
end Go.Proofs.Ytbanbjdcgdmkaaa
namespace Go.Proofs.Ytbanbjdcgdmkaaa
set_option linter.all false
theorem addressOk_i (n:Int):F_impl_addressOk n=some (M.inR 0 63 n):=by
 unfold F_impl_addressOk; rw [cond_bs,show (64:Int)=63+1 from rfl,lt_le]; rfl
theorem pageOk_i (n:Int):F_impl_pageOk n=some (M.inR 0 7 n):=by
 unfold F_impl_pageOk; rw [cond_bs,show (8:Int)=7+1 from rfl,lt_le]; rfl
theorem rootOk_i (n:Int):F_impl_rootOk n=some (M.inR (-1) 7 n):=by
 unfold F_impl_rootOk
 rw [pageOk_i]
 by_cases h:n = -1
 · subst h; rfl
 · rw [decide_eq_false h]
   show some (M.inR 0 7 n)=_
   congr 1
   simp only [M.inR]
   congr 1
   rw [decide_eq_decide]; omega
end Go.Proofs.Ytbanbjdcgdmkaaa
namespace Go.Proofs.Ytbanbjdcgdmkaaa
set_option linter.all false
noncomputable instance:DecidableEq DCore:=fun a b=>Classical.propDecidable (a=b)
noncomputable instance:DecidableEq DBare:=fun a b=>Classical.propDecidable (a=b)
namespace M
def coreOk (c:DCore):Bool:=decide (c.Regs.length=4) && wordsOk c.Regs && (inR 0 63 c.Pc && inR 0 63 c.Vector && inR 0 63 c.Saved && inR 0 63 c.Bad) && inR (-1) 7 c.Root && inR 0 4 c.Cause && wordOk c.Timer
def rowOk (xs:List Int):Bool:=decide (xs.length≤30) && wordsOk xs
def bareOk (b:DBare):Bool:=coreOk b.C && memOk b.Mem && rowOk b.In && rowOk b.Out
end M
theorem rowOk_i {xs:List Int} (h:xs.length≤9223372036854775806):F_impl_rowOk xs=some (M.rowOk xs):=by
 unfold F_impl_rowOk
 rw [wordsOk_i h]
 show cond _ (some _) (some false)=_
 rw [cond_bs]
 simp only [M.rowOk]
 congr 2
 rw [decide_eq_decide]; omega
theorem words_s {xs:List Int} (h:xs.length≤9223372036854775806):F_spec_l3Words xs 30=some (M.rowOk xs):=by
 unfold F_spec_l3Words
 rw [all_loop wordOk_s h (F_spec_l3Words_l2 xs) (fun k=>rfl)]
 simp only [M.rowOk,M.wordsOk]
 cases xs.all M.wordOk
 · simp [LO.val,JO.run]
 · simp only [LO.val,JO.run,Option.bind_some,F_spec_l3Words_j1,cond_true,Bool.and_true]
   congr 1; rw [decide_eq_decide]; omega
theorem coreOk_i {c:DCore} (h:c.Regs.length≤9223372036854775806):F_impl_CoreOk c=some (M.coreOk c):=by
 unfold F_impl_CoreOk
 simp only [wordsOk_i h,addressOk_i,rootOk_i,wordOk_i,Option.bind_some]
 have e4:decide (((c.Regs.length:Nat):Int)=4)=decide (c.Regs.length=4):=by rw [decide_eq_decide]; omega
 rw [e4]
 simp only [M.coreOk,M.inR]
 generalize decide (c.Regs.length=4)=b0
 generalize M.wordsOk c.Regs=b1
 generalize (decide (0≤c.Pc) && decide (c.Pc≤63))=b2
 generalize (decide (0≤c.Vector) && decide (c.Vector≤63))=b3
 generalize (decide (0≤c.Saved) && decide (c.Saved≤63))=b4
 generalize (decide (0≤c.Bad) && decide (c.Bad≤63))=b5
 generalize (decide (-1≤c.Root) && decide (c.Root≤7))=b6
 generalize decide (0≤c.Cause)=b7
 generalize decide (c.Cause≤4)=b8
 generalize M.wordOk c.Timer=b9
 cases b0 <;> cases b2 <;> cases b3 <;> cases b4 <;> cases b7 <;> cases b1 <;> cases b5 <;> cases b6 <;> cases b8 <;> rfl
theorem coreOk_s {c:DCore} (h:c.Regs.length≤9223372036854775806):F_spec_CoreOk c=some (M.coreOk c):=by
 unfold F_spec_CoreOk
 rw [all_loop wordOk_s h (F_spec_CoreOk_l9 c) (fun k=>rfl)]
 simp only [M.coreOk,M.wordsOk]
 cases c.Regs.all M.wordOk
 · simp [LO.val,JO.run]
 · simp only [LO.val,JO.run,Option.bind_some,F_spec_CoreOk_j1,cond_true,Bool.and_true,l1In_s,wordOk_s]
   have e4:decide (((c.Regs.length:Nat):Int)=4)=decide (c.Regs.length=4):=by rw [decide_eq_decide]; omega
   rw [e4]
   generalize decide (c.Regs.length=4)=b0
   generalize M.inR 0 63 c.Pc=b2
   generalize M.inR 0 63 c.Vector=b3
   generalize M.inR 0 63 c.Saved=b4
   generalize M.inR 0 63 c.Bad=b5
   generalize M.inR (-1) 7 c.Root=b6
   generalize M.inR 0 4 c.Cause=b7
   generalize M.wordOk c.Timer=b9
   cases b0 <;> cases b2 <;> cases b3 <;> cases b4 <;> cases b7 <;> cases b5 <;> cases b6 <;> rfl
structure SmallC (c : DCore) : Prop where
 regs:c.Regs.length≤1048576
structure SmallB (b : DBare) : Prop where
 c:SmallC b.C
 mem:b.Mem.length≤1048576
 i:b.In.length≤1048576
 o:b.Out.length≤1048576
end Go.Proofs.Ytbanbjdcgdmkaaa
namespace Go.Proofs.Ytbanbjdcgdmkaaa
set_option linter.all false
theorem toCore_eq {c:DCore} (h:SmallC c):F_laws_toCore c=some c:=by
 unfold F_laws_toCore; rw [toIntS_eq h.regs]; rfl
theorem eqCore_eq {a b:DCore} (h:a.Regs.length≤9223372036854775807):F_laws_eqCore a b=some (decide (a=b)):=by
 unfold F_laws_eqCore
 rw [eqIntS_eq h]
 obtain ⟨r,p1,p2,p3,p4,p5,p6,p7,p8,p9,p10,p11,p12⟩:=a
 obtain ⟨r',q1,q2,q3,q4,q5,q6,q7,q8,q9,q10,q11,q12⟩:=b
 simp only [Option.bind_some,DCore.mk.injEq]
 by_cases h0:r=r' <;> by_cases h1:p1=q1 <;> by_cases h2:p2=q2 <;> by_cases h3:p3=q3 <;> by_cases h4:p4=q4 <;> by_cases h6:p6=q6 <;> by_cases h7:p7=q7 <;> by_cases h8:p8=q8 <;> simp [*]
 cases p5 <;> cases q5 <;> cases p9 <;> cases q9 <;> cases p10 <;> cases q10 <;> cases p11 <;> cases q11 <;> cases p12 <;> cases q12 <;> rfl
theorem szCore_eq {c:DCore} {left:Int} (h:c.Regs.length≤9223372036854775807) (h0:0≤left) (h1:left≤1048576):F_laws_szCore c left=some (if (c.Regs.length:Int)≤left then left - c.Regs.length else -1):=by
 unfold F_laws_szCore
 rw [szIntS_eq h h0 h1]
 simp only [Option.bind_some]
 split
 · have:decide (left - (c.Regs.length:Int)<0)=false:=by simp; omega
   rw [this]; rfl
 · rfl
theorem lt_t {v:Int} (h:v<0):decide (v<0)=true:=decide_eq_true h
end Go.Proofs.Ytbanbjdcgdmkaaa
namespace Go.Proofs.Ytbanbjdcgdmkaaa
set_option linter.all false
theorem getD_mid {T:Type} [Inhabited T] {pre suf:List T} {x:T}:(pre ++ x::suf).getD pre.length default=x:=by simp [List.getD]
theorem copy_loop {T:Type} [Inhabited T] {xs ys:List T} {step:List T × Int→Option (LO (List T × Int) (JO (List T) (List T)))} (hl:ys.length=xs.length)
 (hs:∀ (k:Nat) (zs:List T),k<xs.length→zs.length=xs.length→step (zs,(k:Int))=some (.next (zs.set k (xs.getD k default),(k:Int)+1)))
 (he:∀ zs:List T,zs.length=xs.length→step (zs,(xs.length:Int))=some (.ret (.go zs))):iter step (ys,0)=some (.ret (.go xs)):=by
 have key:∀ (n k:Nat) (zs:List T),k+n=xs.length→zs.length=xs.length→(∀ i,i<k→zs[i]?=xs[i]?)→iter step (zs,(k:Int))=some (.ret (.go xs)):=by
  intro n
  induction n with
  | zero =>
   intro k zs hk hz h
   have e:zs=xs:=by
    apply List.ext_getElem?
    intro i
    by_cases hi:i<k
    · exact h i hi
    · rw [List.getElem?_eq_none (by omega),List.getElem?_eq_none (by omega)]
   have hk:k=xs.length:=by omega
   rw [iter_eq,hk,he zs hz,e]
  | succ n ih =>
   intro k zs hk hz h
   rw [iter_eq,hs k zs (by omega) hz]
   have:=ih (k+1) (zs.set k (xs.getD k default)) (by omega) (by simpa using hz) (fun i hi=>by
    rw [List.getElem?_set]
    by_cases e:k=i
    · subst e; rw [if_pos rfl,if_pos (by omega),getD_lt (by omega),List.getElem?_eq_getElem (by omega)]
    · rw [if_neg e]; exact h i (by omega))
   simpa using this
 simpa using key xs.length 0 ys (by omega) hl (by simp)
def marks {T:Type} (m:T→Int→T × Int):List T→Int→List T × Int
 | [],k=>([],k)
 | x::xs,k=>((m x k).1::(marks m xs (m x k).2).1,(marks m xs (m x k).2).2)
theorem eq_loop {T:Type} [Inhabited T] {xs ys:List T} {step:Int→Option (LO Int (JO Unit Bool))} {d:T→T→Bool} (hd:∀ x ∈ xs,∀ y,d x y=true↔x=y) (hl:xs.length=ys.length)
 (hs:∀ i:Nat,i<xs.length→xs.getD i default ∈ xs→step (i:Int)=some (bif d (xs.getD i default) (ys.getD i default) then .next ((i:Int)+1) else .ret (.out false)))
 (he:step (xs.length:Int)=some (.ret (.go ()))):∃ b:Bool,iter step 0=some (.ret (bif b then .go () else .out false))∧(b=true↔xs=ys):=by
 have key:∀ (n k:Nat),k+n=xs.length→∃ b:Bool,iter step (k:Int)=some (.ret (bif b then .go () else .out false))∧(b=true↔xs.drop k=ys.drop k):=by
  intro n
  induction n with
  | zero =>
   intro k hk
   have hk:k=xs.length:=by omega
   refine ⟨true,by rw [iter_eq,hk,he]; rfl,?_⟩
   subst hk
   simp [hl]
  | succ n ih =>
   intro k hk
   have hm:xs.getD k default ∈ xs:=by rw [getD_lt (by omega)]; exact List.getElem_mem _
   have e1:xs.drop k=xs.getD k default::xs.drop (k+1):=by rw [getD_lt (by omega)]; exact List.drop_eq_getElem_cons (by omega)
   have e2:ys.drop k=ys.getD k default::ys.drop (k+1):=by rw [getD_lt (by omega)]; exact List.drop_eq_getElem_cons (by omega)
   rw [iter_eq,hs k (by omega) hm,e1,e2]
   cases hdd:d (xs.getD k default) (ys.getD k default) with
   | true =>
    obtain ⟨b,h1,h2⟩:=ih (k+1) (by omega)
    refine ⟨b,by simpa using h1,?_⟩
    rw [h2,(hd _ hm _).1 hdd]; simp
   | false =>
    refine ⟨false,by simp,?_⟩
    have:xs.getD k default≠ys.getD k default:=fun e=>by rw [(hd _ hm _).2 e] at hdd; cases hdd
    simp only [List.cons.injEq,Bool.false_eq_true,false_iff]
    exact fun h=>this h.1
 obtain ⟨b,h1,h2⟩:=key xs.length 0 (by omega)
 exact ⟨b,by simpa using h1,by simpa using h2⟩
end Go.Proofs.Ytbanbjdcgdmkaaa
namespace Go.Proofs.Ytbanbjdcgdmkaaa
set_option linter.all false
section
variable {T σ S R : Type} [Inhabited T]
theorem chk_loop {xs:List T} {step:S→Option (LO S R)} (enc:σ→Int→S) (p:T→Bool) (g:σ→T→σ) (fin:σ→R) (r:R) (Inv:Nat→σ→Prop)
 (hs:∀ (i:Nat) x s,(i:Int)<(xs.length:Int)→x ∈ xs→xs.getD i default=x→Inv i s→step (enc s i)=some (bif p x then .next (enc (g s x) ((i:Int)+1)) else .ret r)∧(p x=true→Inv (i+1) (g s x)))
 (he:∀ s,Inv xs.length s→step (enc s xs.length)=some (.ret (fin s))) (s:σ) (hi:Inv 0 s) :
 iter step (enc s 0)=some (.ret (bif xs.all p then fin (xs.foldl g s) else r))∧(xs.all p=true→Inv xs.length (xs.foldl g s)):=by
 have key:∀ (suf pre:List T) (s:σ),xs=pre ++ suf→Inv pre.length s→iter step (enc s pre.length)=some (.ret (bif suf.all p then fin (suf.foldl g s) else r))∧(suf.all p=true→Inv xs.length (suf.foldl g s)):=by
  intro suf
  induction suf with
  | nil =>
   intro pre s hx hi
   rw [List.append_nil] at hx
   subst hx
   rw [iter_eq,he s hi]; exact ⟨rfl,fun _=>hi⟩
  | cons x suf ih =>
   intro pre s hx hi
   obtain ⟨h1,h2⟩:=hs pre.length x s (by rw [hx]; simp; omega) (by rw [hx]; simp) (by rw [hx]; simp [List.getD]) hi
   rw [iter_eq,h1]
   cases hp:p x with
   | false=>simp [List.all_cons,hp]
   | true =>
    obtain ⟨g1,g2⟩:=ih (pre ++ [x]) (g s x) (by rw [hx]; simp) (by simpa using h2 hp)
    simp only [List.length_append,List.length_cons,List.length_nil,Nat.zero_add,Int.natCast_add] at g1
    simp only [cond_true,List.all_cons,hp,Bool.true_and,List.foldl_cons]
    exact ⟨g1,g2⟩
 simpa using key xs [] s rfl hi
theorem fold_loop {xs:List T} {step:S→Option (LO S R)} (enc:σ→Int→S) (g:σ→T→σ) (fin:σ→R) (Inv:Nat→σ→Prop)
 (hs:∀ (i:Nat) x s,(i:Int)<(xs.length:Int)→x ∈ xs→xs.getD i default=x→Inv i s→step (enc s i)=some (.next (enc (g s x) ((i:Int)+1)))∧Inv (i+1) (g s x))
 (he:∀ s,Inv xs.length s→step (enc s xs.length)=some (.ret (fin s))) (s:σ) (hi:Inv 0 s) :
 iter step (enc s 0)=some (.ret (fin (xs.foldl g s)))∧Inv xs.length (xs.foldl g s):=by
 have h:=chk_loop (p:=fun _=>true) enc g fin (fin s) Inv (fun i x s h1 h2 h3 h4=>⟨(hs i x s h1 h2 h3 h4).1,fun _=>(hs i x s h1 h2 h3 h4).2⟩) he s hi
 have e:xs.all (fun _=>true)=true:=by simp
 rw [e] at h
 exact ⟨h.1,h.2 rfl⟩
theorem count_loop {n:Nat} {step:S→Option (LO S R)} (enc:σ→Int→S) (g:σ→Nat→σ) (fin:σ→R) (Inv:Nat→σ→Prop)
 (hs:∀ (i:Nat) s,i<n→Inv i s→step (enc s i)=some (.next (enc (g s i) ((i:Int)+1)))∧Inv (i+1) (g s i))
 (he:∀ s,Inv n s→step (enc s n)=some (.ret (fin s))) (s:σ) (hi:Inv 0 s) :
 iter step (enc s 0)=some (.ret (fin ((List.range n).foldl g s)))∧Inv n ((List.range n).foldl g s):=by
 have h:=fold_loop (xs:=List.range n) enc g fin Inv (fun i x s h1 h2 h3 h4=>by
  have hi:i<n:=by simpa using h1
  have:x=i:=by rw [← h3]; simp [List.getD,hi]
  subst this
  exact hs x s hi h4) (by simpa using he) s hi
 simpa using h
theorem chkn_loop {n:Nat} {step:S→Option (LO S R)} (enc:Int→S) (p:Nat→Bool) (a r:R)
 (hs:∀ (i:Nat),i<n→step (enc i)=some (bif p i then .next (enc ((i:Int)+1)) else .ret r))
 (he:step (enc n)=some (.ret a)) :
 iter step (enc 0)=some (.ret (bif (List.range n).all p then a else r)):=by
 have h:=chk_loop (xs:=List.range n) (σ:=Unit) (fun _ k=>enc k) p (fun _ _=>()) (fun _=>a) r (fun _ _=>True) (fun i x s h1 h2 h3 h4=>by
  have hi:i<n:=by simpa using h1
  have:x=i:=by rw [← h3]; simp [List.getD,hi]
  subst this
  exact ⟨hs x hi,fun _=>trivial⟩) (fun s _=>by simpa using he) () trivial
 exact h.1
end
theorem foldl_flatMap' {α β σ:Type} {f:α→List β} {g:σ→β→σ}:∀ {xs:List α} {s:σ},xs.foldl (fun s x=>(f x).foldl g s) s=(xs.flatMap f).foldl g s
 | [],_=>rfl
 | x::xs,s=>by simp only [List.foldl_cons,List.flatMap_cons,List.foldl_append]; exact foldl_flatMap'
end Go.Proofs.Ytbanbjdcgdmkaaa
namespace Go.Proofs.Ytbanbjdcgdmkaaa
set_option linter.all false
noncomputable instance:DecidableEq DSlot:=fun a b=>Classical.propDecidable (a=b)
noncomputable instance:DecidableEq DGuest:=fun a b=>Classical.propDecidable (a=b)
noncomputable instance:DecidableEq DHost:=fun a b=>Classical.propDecidable (a=b)
structure SmallG (g : DGuest) : Prop where
 c:SmallC g.C
 pages:g.Pages.length≤1048576
 i:g.In.length≤1048576
 o:g.Out.length≤1048576
structure SmallH (h : DHost) : Prop where
 words:h.Words.length≤1048576
 guests:h.Guests.length≤1048576
 all:∀ g ∈ h.Guests,SmallG g
theorem getD_mem {T:Type} [Inhabited T] {xs:List T} {k:Nat} (h:k<xs.length):xs.getD k default ∈ xs:=by rw [getD_lt h]; exact List.getElem_mem _
namespace M
def noCore:DCore:=⟨[],0,0,0,0,false,0,0,0,false,false,false,false⟩
def noGuest:DGuest:=⟨false,noCore,[],[],[]⟩
def slotOk (s:DSlot):Bool:=bif decide (s.Frame = -1) then !s.Write && !s.Dirty else decide (0≤s.Frame) && decide (s.Frame<20)
noncomputable def guestOk (g:DGuest):Bool:=bif g.Live then coreOk g.C && (decide (g.Pages.length=8) && g.Pages.all slotOk) && rowOk g.In && rowOk g.Out else decide (g=noGuest)
def slots (gs:List DGuest):List DSlot:=gs.flatMap (·.Pages)
def many (ss:List DSlot) (f:Int):Nat:=ss.countP fun s=>decide (s.Frame=f)
def alone (ss:List DSlot):Bool:=ss.all fun s=>!s.Write || decide (many ss s.Frame≤1)
def bump (xs:List Int) (s:DSlot):List Int:=bif decide (s.Frame = -1) then xs else xs.set s.Frame.toNat (xs.getD s.Frame.toNat default+1)
def takers (ss:List DSlot):List Int:=ss.foldl bump (List.replicate 20 0)
noncomputable def hostOk (h:DHost):Bool:=decide (h.Words.length=160) && wordsOk h.Words && (decide (h.Guests.length=3) && h.Guests.all guestOk) && alone (slots h.Guests)
end M
theorem slotOk_i (s:DSlot):F_impl_slotOk s=some (M.slotOk s):=by
 unfold F_impl_slotOk M.slotOk
 by_cases h:s.Frame = -1
 · rw [decide_eq_true h]; cases s.Write <;> rfl
 · rw [decide_eq_false h]; simp only [cond_false]; exact cond_bs
theorem slotsOk_i {xs:List DSlot} (h:xs.length≤9223372036854775806):F_impl_slotsOk xs=some (decide (xs.length=8) && xs.all M.slotOk):=by
 unfold F_impl_slotsOk
 by_cases hl:xs.length=8
 · have:decide (((xs.length:Nat):Int)=8)=true:=by simp; omega
   rw [this,Bool.not_true,cond_false,all_loop slotOk_i h (F_impl_slotsOk_l2 xs) (fun k=>rfl),decide_eq_true hl]
   cases xs.all M.slotOk <;> rfl
 · have:decide (((xs.length:Nat):Int)=8)=false:=by simp; omega
   rw [this,decide_eq_false hl]; rfl
theorem dbe {a b:Bool} (h:a=true↔b=true):a=b:=Bool.eq_iff_iff.2 h
theorem isNoCore_i (c:DCore):F_impl_isNoCore c=some (decide (c=M.noCore)):=by
 obtain ⟨a1,a2,a3,a4,a5,a6,a7,a8,a9,a10,a11,a12,a13⟩:=c
 unfold F_impl_isNoCore
 simp only []
 by_cases h2:a2=0
 · by_cases h3:a3=0
   · by_cases h4:a4=0
     · by_cases h5:a5=0
       · by_cases h1:a1=[]
         · by_cases h8:a8=0
           · by_cases h7:a7=0
             · by_cases h9:a9=0
               · subst h1 h2 h3 h4 h5 h7 h8 h9
                 cases a6 <;> cases a10 <;> cases a11 <;> cases a12 <;> cases a13 <;> simp [M.noCore]
               · rw [decide_eq_false (p:=DCore.mk _ _ _ _ _ _ _ _ _ _ _ _ _=M.noCore) (by simp [M.noCore,h9])]
                 simp only [decide_eq_false h9]; cases a6 <;> cases a10 <;> cases a11 <;> cases a12 <;> simp
             · rw [decide_eq_false (p:=DCore.mk _ _ _ _ _ _ _ _ _ _ _ _ _=M.noCore) (by simp [M.noCore,h7])]
               simp only [decide_eq_false h7]; cases a6 <;> cases a10 <;> cases a11 <;> cases a12 <;> simp
           · rw [decide_eq_false (p:=DCore.mk _ _ _ _ _ _ _ _ _ _ _ _ _=M.noCore) (by simp [M.noCore,h8])]
             simp only [decide_eq_false h8]; cases a6 <;> cases a10 <;> cases a11 <;> cases a12 <;> simp
         · rw [decide_eq_false (p:=DCore.mk _ _ _ _ _ _ _ _ _ _ _ _ _=M.noCore) (by simp [M.noCore,h1])]
           have:decide (((a1.length:Nat):Int)=0)=false:=by simp [h1]
           simp only [this]; cases a6 <;> cases a10 <;> cases a11 <;> cases a12 <;> simp
       · rw [decide_eq_false (p:=DCore.mk _ _ _ _ _ _ _ _ _ _ _ _ _=M.noCore) (by simp [M.noCore,h5])]
         simp only [decide_eq_false h5]; cases a6 <;> cases a10 <;> cases a11 <;> cases a12 <;> simp
     · rw [decide_eq_false (p:=DCore.mk _ _ _ _ _ _ _ _ _ _ _ _ _=M.noCore) (by simp [M.noCore,h4])]
       simp only [decide_eq_false h4]; cases a6 <;> cases a10 <;> cases a11 <;> cases a12 <;> simp
   · rw [decide_eq_false (p:=DCore.mk _ _ _ _ _ _ _ _ _ _ _ _ _=M.noCore) (by simp [M.noCore,h3])]
     simp only [decide_eq_false h3]; cases a6 <;> cases a10 <;> cases a11 <;> cases a12 <;> simp
 · rw [decide_eq_false (p:=DCore.mk _ _ _ _ _ _ _ _ _ _ _ _ _=M.noCore) (by simp [M.noCore,h2])]
   simp only [decide_eq_false h2]; cases a6 <;> cases a10 <;> cases a11 <;> cases a12 <;> simp
theorem hasNothing_i {g:DGuest} (hl:g.Live=false):F_impl_hasNothing g=some (decide (g=M.noGuest)):=by
 unfold F_impl_hasNothing
 rw [isNoCore_i,Option.bind_some]
 obtain ⟨l,c,p,i,o⟩:=g
 simp only at hl
 subst hl
 simp only [M.noGuest,DGuest.mk.injEq,true_and]
 by_cases h1:c=M.noCore <;> by_cases h2:p=[] <;> by_cases h3:i=[] <;> by_cases h4:o=[] <;> simp [h1,h2,h3,h4]
theorem zero_s {g:DGuest} (hl:g.Live=false):F_spec_l4Zero g=some (decide (g=M.noGuest)):=by
 unfold F_spec_l4Zero
 obtain ⟨l,⟨a1,a2,a3,a4,a5,a6,a7,a8,a9,a10,a11,a12,a13⟩,p,i,o⟩:=g
 simp only at hl
 subst hl
 simp only [cond_b rfl,cond_bs]
 congr 1
 apply dbe
 simp only [Bool.and_eq_true,decide_eq_true_eq,Bool.not_eq_true',M.noGuest,M.noCore,DGuest.mk.injEq,DCore.mk.injEq,true_and,Int.natCast_eq_zero,List.length_eq_zero_iff]
 constructor
 · rintro ⟨h1,h2,h3,h4,h5,h6,h7,h8,h9,h10,h11,h12,h13,h14,h15,h16⟩; exact ⟨⟨h1,h2,h3,h4,h5,h6,h7,h8,h9,h10,h11,h12,h13⟩,h14,h15,h16⟩
 · rintro ⟨⟨h1,h2,h3,h4,h5,h6,h7,h8,h9,h10,h11,h12,h13⟩,h14,h15,h16⟩; exact ⟨h1,h2,h3,h4,h5,h6,h7,h8,h9,h10,h11,h12,h13,h14,h15,h16⟩
theorem guestOk_i {g:DGuest} (h:SmallG g):F_impl_guestOk g=some (M.guestOk g):=by
 have:=h.c.regs; have:=h.pages; have:=h.i; have:=h.o
 unfold F_impl_guestOk M.guestOk
 cases hl:g.Live with
 | false =>
  simp only [Bool.not_false,cond_true,hasNothing_i hl,Option.bind_some,cond_false]
 | true =>
  simp only [Bool.not_true,cond_false,cond_true]
  rw [coreOk_i (by omega),slotsOk_i (by omega),rowOk_i (by omega),rowOk_i (by omega)]
  simp only [Option.bind_some]
  cases M.coreOk g.C <;> cases (decide (g.Pages.length=8) && g.Pages.all M.slotOk) <;> cases M.rowOk g.In <;> rfl
theorem guestsOk_i {gs:List DGuest} (hl:gs.length≤1048576) (h:∀ g ∈ gs,SmallG g):F_impl_guestsOk gs=some (decide (gs.length=3) && gs.all M.guestOk):=by
 unfold F_impl_guestsOk
 by_cases hl:gs.length=3
 · have:decide (((gs.length:Nat):Int)=3)=true:=by simp; omega
   rw [this,Bool.not_true,cond_false,decide_eq_true hl,Bool.true_and]
   have key:=(chk_loop (xs:=gs) (σ:=Unit) (step:=F_impl_guestsOk_l2 gs) (fun _ k=>k) M.guestOk (fun _ _=>()) (fun _=>JO.go ()) (.out false) (fun _ _=>True) (fun i x s h1 h2 h3 h4=>by
    refine ⟨?_,fun _=>trivial⟩
    simp only [F_impl_guestsOk_l2,decide_eq_true h1,cond_true]
    rw [grd_t ⟨by omega,h1⟩,Int.toNat_natCast,h3]
    show Option.bind (F_impl_guestOk x) _=_
    rw [guestOk_i (h x h2),Option.bind_some,w64_in (by omega) (by omega)]
    cases M.guestOk x <;> rfl) (fun s _=>by
    simp only [F_impl_guestsOk_l2]; rw [decide_eq_false (by omega),cond_false]) () trivial).1
   rw [key]
   cases gs.all M.guestOk <;> rfl
 · have:decide (((gs.length:Nat):Int)=3)=false:=by simp; omega
   rw [this,decide_eq_false hl]; rfl
theorem set_get {xs:List Int} {i j:Nat} {v:Int} (hi:i<xs.length):(xs.set i v).getD j default=if i=j then v else xs.getD j default:=by
 by_cases h:i=j
 · subst h; simp [List.getD,hi]
 · simp [List.getD,List.getElem?_set,h]
theorem bump_len {xs:List Int} {s:DSlot}:(M.bump xs s).length=xs.length:=by
 unfold M.bump; cases decide (s.Frame = -1) <;> simp
theorem slot_range {s:DSlot} (h:M.slotOk s=true):-1≤s.Frame∧s.Frame<20:=by
 unfold M.slotOk at h
 by_cases e:s.Frame = -1
 · omega
 · rw [decide_eq_false e,cond_false,Bool.and_eq_true,decide_eq_true_eq,decide_eq_true_eq] at h; omega
theorem bump_get {xs:List Int} {s:DSlot} (hl:xs.length=20) (h:M.slotOk s=true) {f:Nat} (hf:f<20):(M.bump xs s).getD f default=xs.getD f default+(if s.Frame=(f:Int) then 1 else 0):=by
 have hr:=slot_range h
 unfold M.bump
 by_cases e:s.Frame = -1
 · rw [decide_eq_true e,cond_true,if_neg (by omega)]; omega
 · rw [decide_eq_false e,cond_false,set_get (by omega)]
   by_cases e2:s.Frame=(f:Int)
   · rw [if_pos (by omega),if_pos e2]; congr 2; omega
   · rw [if_neg (by omega),if_neg e2]; omega
theorem many_cons {s:DSlot} {ss:List DSlot} {f:Int}:M.many (s::ss) f=M.many ss f+(if s.Frame=f then 1 else 0):=by
 simp only [M.many,List.countP_cons,decide_eq_true_eq]
theorem bumps_get {f:Nat} (hf:f<20):∀ {ss:List DSlot} {xs:List Int},xs.length=20→ss.all M.slotOk=true→(ss.foldl M.bump xs).length=20∧(ss.foldl M.bump xs).getD f default=xs.getD f default+(M.many ss f:Int)
 | [],xs,hl,_=>⟨hl,by simp [M.many]⟩
 | s::ss,xs,hl,h=>by
  rw [List.all_cons,Bool.and_eq_true] at h
  obtain ⟨h1,h2⟩:=bumps_get hf (ss:=ss) (xs:=M.bump xs s) (by rw [bump_len,hl]) h.2
  refine ⟨h1,?_⟩
  rw [List.foldl_cons,h2,bump_get hl h.1 hf,many_cons]
  split <;> simp <;> omega
theorem takers_len {ss:List DSlot} (h:ss.all M.slotOk=true):(M.takers ss).length=20:=(bumps_get (f:=0) (by omega) (xs:=List.replicate 20 0) (by simp) h).1
theorem takers_get {ss:List DSlot} (h:ss.all M.slotOk=true) {f:Nat} (hf:f<20):(M.takers ss).getD f default=(M.many ss f:Int):=by
 unfold M.takers
 rw [(bumps_get (f:=f) hf (xs:=List.replicate 20 0) (by simp) h).2]
 have:(List.replicate 20 (0:Int)).getD f default=0:=by rw [getD_lt (by rw [List.length_replicate]; omega),List.getElem_replicate]
 omega
theorem guest_slots {g:DGuest} (h:M.guestOk g=true):g.Pages.all M.slotOk=true∧g.Pages.length≤8:=by
 unfold M.guestOk at h
 cases hl:g.Live with
 | true =>
  rw [hl,cond_true] at h
  simp only [Bool.and_eq_true,decide_eq_true_eq] at h
  exact ⟨h.1.1.2.2,by omega⟩
 | false =>
  rw [hl,cond_false,decide_eq_true_eq] at h
  rw [h]; exact ⟨rfl,by simp [M.noGuest]⟩
theorem all_slots {gs:List DGuest} (h:gs.all M.guestOk=true):(M.slots gs).all M.slotOk=true:=by
 simp only [M.slots,List.all_flatMap,List.all_eq_true] at h ⊢
 exact fun g hg=>List.all_eq_true.1 (guest_slots (h g hg)).1
structure Tl (B : Nat) (xs : List Int) : Prop where
 len:xs.length=20
 low:∀ i,i<20→0≤xs.getD i default
 top:∀ i,i<20→xs.getD i default≤(B:Int)
theorem Tl.mono {B C:Nat} {xs:List Int} (h:Tl B xs) (hB:B≤C):Tl C xs:=⟨h.len,h.low,fun i hi=>by have:=h.top i hi; omega⟩
theorem Tl.bump {B:Nat} {xs:List Int} {s:DSlot} (h:Tl B xs) (hs:M.slotOk s=true):Tl (B+1) (M.bump xs s):=by
 refine ⟨by rw [bump_len,h.len],fun i hi=>?_,fun i hi=>?_⟩
 all_goals rw [bump_get h.len hs hi]; have:=h.low i hi; have:=h.top i hi; split <;> omega
theorem Tl.zero:Tl 0 (List.replicate 20 0):=by
 refine ⟨by simp,fun i hi=>?_,fun i hi=>?_⟩
 all_goals rw [getD_lt (by rw [List.length_replicate]; omega),List.getElem_replicate]; omega
end Go.Proofs.Ytbanbjdcgdmkaaa
namespace Go.Proofs.Ytbanbjdcgdmkaaa
set_option linter.all false
theorem toSlotS_eq {xs:List DSlot} (h:xs.length≤1048576):F_laws_toSlotS xs=some xs:=by
 have key:=copy_loop (xs:=xs) (ys:=List.replicate (Int.toNat (xs.length:Int)) (DSlot.mk 0 false false)) (step:=F_laws_toSlotS_l2 xs) (by simp) (fun k zs hk hz=>by
  have h1:(k:Int)<(xs.length:Int):=by omega
  simp only [F_laws_toSlotS_l2,decide_eq_true h1,cond_true,hz]
  rw [grd_t ⟨by omega,h1⟩,Int.toNat_natCast]
  show Option.bind (some (xs.getD k default)) _=_
  rw [Option.bind_some,grd_t ⟨by omega,h1⟩,w64_in (by omega) (by omega)]) (fun zs hz=>by
  simp only [F_laws_toSlotS_l2]
  rw [decide_eq_false (by omega),cond_false])
 unfold F_laws_toSlotS
 rw [grd_t ⟨by omega,by omega,by omega⟩,key]; rfl
theorem toGuest_eq {g:DGuest} (h:SmallG g):F_laws_toGuest g=some g:=by
 unfold F_laws_toGuest; rw [toCore_eq h.c,toSlotS_eq h.pages,toIntS_eq h.i,toIntS_eq h.o]; rfl
theorem toGuestS_eq {xs:List DGuest} (h:xs.length≤1048576) (hs:∀ g ∈ xs,SmallG g):F_laws_toGuestS xs=some xs:=by
 have key:=copy_loop (xs:=xs) (ys:=List.replicate (Int.toNat (xs.length:Int)) (DGuest.mk false (DCore.mk ([]:List Int) (0:Int) (0:Int) (0:Int) (0:Int) false (0:Int) (0:Int) (0:Int) false false false false) ([]:List DSlot) ([]:List Int) ([]:List Int))) (step:=F_laws_toGuestS_l2 xs) (by simp) (fun k zs hk hz=>by
  have h1:(k:Int)<(xs.length:Int):=by omega
  simp only [F_laws_toGuestS_l2,decide_eq_true h1,cond_true,hz]
  rw [grd_t ⟨by omega,h1⟩,Int.toNat_natCast]
  show Option.bind (F_laws_toGuest (xs.getD k default)) _=_
  rw [toGuest_eq (hs _ (getD_mem hk)),Option.bind_some,grd_t ⟨by omega,h1⟩,w64_in (by omega) (by omega)]) (fun zs hz=>by
  simp only [F_laws_toGuestS_l2]
  rw [decide_eq_false (by omega),cond_false])
 unfold F_laws_toGuestS
 rw [grd_t ⟨by omega,by omega,by omega⟩,key]; rfl
theorem toHost_eq {h:DHost} (hs:SmallH h):F_laws_toHost h=some h:=by
 unfold F_laws_toHost; rw [toIntS_eq hs.words,toGuestS_eq hs.guests hs.all]; rfl
theorem eqSlot_eq {a b:DSlot}:F_laws_eqSlot a b=some (decide (a=b)):=by
 obtain ⟨f,w,d⟩:=a
 obtain ⟨f',w',d'⟩:=b
 unfold F_laws_eqSlot
 simp only [DSlot.mk.injEq]
 by_cases h:f=f' <;> cases w <;> cases w' <;> cases d <;> cases d' <;> simp [h]
theorem eqSlotS_eq {xs ys:List DSlot} (h:xs.length≤9223372036854775806):F_laws_eqSlotS xs ys=some (decide (xs=ys)):=by
 unfold F_laws_eqSlotS
 by_cases hl:xs.length=ys.length
 · obtain ⟨b,h1,h2⟩:=eq_loop (xs:=xs) (ys:=ys) (step:=F_laws_eqSlotS_l2 xs ys) (d:=fun x y=>decide (x=y)) (fun x _ y=>decide_eq_true_iff) hl (fun i hi _=>by
    have e1:(i:Int)<(xs.length:Int):=by omega
    simp only [F_laws_eqSlotS_l2,decide_eq_true e1,cond_true]
    rw [grd_t ⟨by omega,e1⟩,grd_t ⟨by omega,by omega⟩,Int.toNat_natCast]
    show Option.bind (F_laws_eqSlot (xs.getD i default) (ys.getD i default)) _=_
    rw [eqSlot_eq,Option.bind_some,w64_in (by omega) (by omega)]
    cases decide (xs.getD i default=ys.getD i default) <;> rfl) (by
    simp only [F_laws_eqSlotS_l2]; rw [decide_eq_false (by omega),cond_false])
   rw [h1,decide_eq_true (by omega)]
   have e:decide (xs=ys)=b:=by rw [Bool.eq_iff_iff,decide_eq_true_iff]; exact h2.symm
   rw [e]; cases b <;> rfl
 · rw [decide_eq_false (by omega),decide_eq_false (fun e=>hl (by rw [e]))]; rfl
theorem eqGuest_eq {a b:DGuest} (h:SmallG a):F_laws_eqGuest a b=some (decide (a=b)):=by
 have:=h.c.regs; have:=h.pages; have:=h.i; have:=h.o
 unfold F_laws_eqGuest
 rw [eqCore_eq (by omega),eqSlotS_eq (by omega),eqIntS_eq (by omega),eqIntS_eq (by omega)]
 obtain ⟨l,c,p,i,o⟩:=a
 obtain ⟨l',c',p',i',o'⟩:=b
 simp only [Option.bind_some,DGuest.mk.injEq]
 by_cases h1:c=c' <;> by_cases h2:p=p' <;> by_cases h3:i=i' <;> by_cases h4:o=o' <;> cases l <;> cases l' <;> simp [*]
theorem eqGuestS_eq {xs ys:List DGuest} (h:xs.length≤1048576) (hs:∀ g ∈ xs,SmallG g):F_laws_eqGuestS xs ys=some (decide (xs=ys)):=by
 unfold F_laws_eqGuestS
 by_cases hl:xs.length=ys.length
 · obtain ⟨b,h1,h2⟩:=eq_loop (xs:=xs) (ys:=ys) (step:=F_laws_eqGuestS_l2 xs ys) (d:=fun x y=>decide (x=y)) (fun x _ y=>decide_eq_true_iff) hl (fun i hi hm=>by
    have e1:(i:Int)<(xs.length:Int):=by omega
    simp only [F_laws_eqGuestS_l2,decide_eq_true e1,cond_true]
    rw [grd_t ⟨by omega,e1⟩,grd_t ⟨by omega,by omega⟩,Int.toNat_natCast]
    show Option.bind (F_laws_eqGuest (xs.getD i default) (ys.getD i default)) _=_
    rw [eqGuest_eq (hs _ hm),Option.bind_some,w64_in (by omega) (by omega)]
    cases decide (xs.getD i default=ys.getD i default) <;> rfl) (by
    simp only [F_laws_eqGuestS_l2]; rw [decide_eq_false (by omega),cond_false])
   rw [h1,decide_eq_true (by omega)]
   have e:decide (xs=ys)=b:=by rw [Bool.eq_iff_iff,decide_eq_true_iff]; exact h2.symm
   rw [e]; cases b <;> rfl
 · rw [decide_eq_false (by omega),decide_eq_false (fun e=>hl (by rw [e]))]; rfl
theorem eqHost_eq {a b:DHost} (h:SmallH a):F_laws_eqHost a b=some (decide (a=b)):=by
 have:=h.words
 unfold F_laws_eqHost
 rw [eqIntS_eq (by omega),eqGuestS_eq h.guests h.all]
 obtain ⟨w,g⟩:=a
 obtain ⟨w',g'⟩:=b
 simp only [Option.bind_some,DHost.mk.injEq]
 by_cases h1:w=w' <;> by_cases h2:g=g' <;> simp [*]
theorem szSlotS_eq {xs:List DSlot} {left:Int} (h:xs.length≤9223372036854775807) (h0:0≤left) (h1:left≤1048576):F_laws_szSlotS xs left=some (if (xs.length:Int)≤left then left - xs.length else -1):=by
 unfold F_laws_szSlotS
 rw [w64_in (by omega) (by omega)]
 by_cases hl:(xs.length:Int)≤left
 · rw [decide_eq_false (by omega),if_pos hl]; rfl
 · rw [decide_eq_true (by omega),if_neg hl]; rfl
structure FitG (g : DGuest) : Prop where
 c:g.C.Regs.length≤9223372036854775807
 pages:g.Pages.length≤9223372036854775807
 i:g.In.length≤9223372036854775807
 o:g.Out.length≤9223372036854775807
theorem szGuest_eq {g:DGuest} {left:Int} (h:FitG g) (h0:0≤left) (h1:left≤1048576):∃ v,F_laws_szGuest g left=some v∧(v<0∨(0≤v∧v≤left∧SmallG g)):=by
 have:=h.c; have:=h.pages; have:=h.i; have:=h.o
 unfold F_laws_szGuest
 rw [szCore_eq (by omega) h0 h1]
 simp only [Option.bind_some]
 split
 · rename_i e1
   rw [decide_eq_false (by omega),cond_false,szSlotS_eq (by omega) (by omega) (by omega)]
   simp only [Option.bind_some]
   split
   · rename_i e2
     rw [decide_eq_false (by omega),cond_false,szIntS_eq (by omega) (by omega) (by omega)]
     simp only [Option.bind_some]
     split
     · rename_i e3
       rw [decide_eq_false (by omega),cond_false,szIntS_eq (by omega) (by omega) (by omega)]
       simp only [Option.bind_some]
       split
       · rename_i e4
         rw [decide_eq_false (by omega),cond_false]
         exact ⟨_,rfl,.inr ⟨by omega,by omega,⟨by omega⟩,by omega,by omega,by omega⟩⟩
       · exact ⟨-1,rfl,.inl (by omega)⟩
     · exact ⟨-1,rfl,.inl (by omega)⟩
   · exact ⟨-1,rfl,.inl (by omega)⟩
 · exact ⟨-1,rfl,.inl (by omega)⟩
theorem szGuestS_eq {xs:List DGuest} {left:Int} (hl:xs.length≤9223372036854775807) (h:∀ g ∈ xs,FitG g) (h0:0≤left) (h1:left≤1048576):∃ v,F_laws_szGuestS xs left=some v∧(v<0∨(0≤v∧v≤left∧xs.length≤1048576∧∀ g ∈ xs,SmallG g)):=by
 unfold F_laws_szGuestS
 rw [w64_in (by omega) (by omega)]
 by_cases e:left - (xs.length:Int)<0
 · rw [decide_eq_true e]; exact ⟨-1,rfl,.inl (by omega)⟩
 · rw [decide_eq_false e,cond_false]
   have key:∀ (suf pre:List DGuest) (q:Int),xs=pre ++ suf→0≤q→q≤left→∃ j:JO Int Int,iter (F_laws_szGuestS_l2 xs) (q,(pre.length:Int))=some (.ret j)∧(j = .out (-1)∨∃ v,j = .go v∧0≤v∧v≤q∧∀ g ∈ suf,SmallG g):=by
    intro suf
    induction suf with
    | nil =>
     intro pre q hx hq _
     rw [List.append_nil] at hx
     refine ⟨.go q,?_,.inr ⟨q,rfl,hq,Int.le_refl _,by simp⟩⟩
     rw [iter_eq]
     simp only [F_laws_szGuestS_l2]
     rw [decide_eq_false (by rw [hx]; omega),cond_false]
    | cons x suf ih =>
     intro pre q hx hq hq1
     have e1:((pre.length:Nat):Int)<(xs.length:Int):=by rw [hx]; simp; omega
     have e2:xs.getD pre.length default=x:=by rw [hx]; exact getD_mid
     obtain ⟨v,g1,g2⟩:=szGuest_eq (h x (by rw [hx]; simp)) hq (by omega)
     have st:F_laws_szGuestS_l2 xs (q,(pre.length:Int))=cond (decide (v<0)) (some (.ret (.out (-1)))) (some (.next (v,(pre.length:Int)+1))):=by
      simp only [F_laws_szGuestS_l2,decide_eq_true e1,cond_true]
      rw [grd_t ⟨by omega,e1⟩,Int.toNat_natCast,e2]
      show Option.bind (F_laws_szGuest x q) _=_
      rw [g1,Option.bind_some,w64_in (by omega) (by omega)]
     rw [iter_eq,st]
     rcases g2 with g2 | ⟨g2,g3,g4⟩
     · rw [decide_eq_true g2]; exact ⟨_,rfl,.inl rfl⟩
     · rw [decide_eq_false (by omega),cond_false]
       obtain ⟨j,k1,k2⟩:=ih (pre ++ [x]) v (by rw [hx]; simp) g2 (by omega)
       simp only [List.length_append,List.length_cons,List.length_nil,Nat.zero_add,Int.natCast_add] at k1
       refine ⟨j,k1,k2.imp id fun ⟨u,u1,u2,u3,u4⟩=>⟨u,u1,u2,by omega,fun g hg=>?_⟩⟩
       rcases List.mem_cons.1 hg with rfl | hg
       · exact g4
       · exact u4 g hg
   obtain ⟨j,k1,k2⟩:=key xs [] (left - xs.length) rfl (by omega) (by omega)
   rw [show ((([]:List DGuest).length:Nat):Int)=0 from rfl] at k1
   rw [k1]
   rcases k2 with rfl | ⟨v,rfl,k3,k4,k5⟩
   · exact ⟨-1,rfl,.inl (by omega)⟩
   · exact ⟨v,rfl,.inr ⟨k3,by omega,by omega,k5⟩⟩
structure FitH (h : DHost) : Prop where
 words:h.Words.length≤9223372036854775807
 guests:h.Guests.length≤9223372036854775807
 all:∀ g ∈ h.Guests,FitG g
theorem szHost_eq {h:DHost} {left:Int} (hf:FitH h) (h0:0≤left) (h1:left≤1048576):∃ v,F_laws_szHost h left=some v∧(v<0∨(0≤v∧v≤left∧SmallH h)):=by
 unfold F_laws_szHost
 rw [szIntS_eq hf.words h0 h1]
 simp only [Option.bind_some]
 split
 · rename_i e1
   rw [decide_eq_false (by omega),cond_false]
   obtain ⟨v,g1,g2⟩:=szGuestS_eq hf.guests hf.all (left:=left - h.Words.length) (by omega) (by omega)
   rw [g1,Option.bind_some]
   rcases g2 with g2 | ⟨g2,g3,g4,g5⟩
   · rw [decide_eq_true g2]; exact ⟨-1,rfl,.inl (by omega)⟩
   · rw [decide_eq_false (by omega),cond_false]
     exact ⟨v,rfl,.inr ⟨g2,by omega,by omega,g4,g5⟩⟩
 · exact ⟨-1,rfl,.inl (by omega)⟩
end Go.Proofs.Ytbanbjdcgdmkaaa
namespace Go.Proofs.Ytbanbjdcgdmkaaa
set_option linter.all false
def dec (w:Int):DEntry:=⟨decide (w % 2=1),decide (w / 2 % 2=1),decide (w / 4 % 2=1),w / 8 % 8⟩
theorem dec_page (w:Int):0≤(dec w).Page∧(dec w).Page≤7:=by simp only [dec]; omega
theorem div_in {w k:Int} (h0:0≤w) (h1:w≤4095) (hk:1≤k):w64 (Int.tdiv w k)=w / k∧0≤w / k:=by
 have e:Int.tdiv w k=w / k:=Int.tdiv_eq_ediv_of_nonneg h0
 have g0:0≤w / k:=Int.ediv_nonneg h0 (by omega)
 have g1:w / k≤w:=Int.ediv_le_self k h0
 rw [e,w64_in (by omega) (by omega)]; exact ⟨rfl,g0⟩
theorem entryFrom_i {w:Int} (h0:0≤w) (h1:w≤4095):F_impl_EntryFrom w=some (dec w):=by
 unfold F_impl_EntryFrom
 rw [wordOk_i,show M.wordOk w=true from M.inR_iff.2 ⟨h0,h1⟩]
 simp only [Option.bind_some,Bool.not_true,cond_false]
 rw [(div_in h0 h1 (k:=1) (by omega)).1,(div_in h0 h1 (k:=2) (by omega)).1,(div_in h0 h1 (k:=4) (by omega)).1,(div_in h0 h1 (k:=8) (by omega)).1,Int.tmod_eq_emod_of_nonneg (div_in h0 h1 (k:=1) (by omega)).2,Int.tmod_eq_emod_of_nonneg (div_in h0 h1 (k:=2) (by omega)).2,Int.tmod_eq_emod_of_nonneg (div_in h0 h1 (k:=4) (by omega)).2,Int.tmod_eq_emod_of_nonneg (div_in h0 h1 (k:=8) (by omega)).2,Int.ediv_one]
 rfl
theorem entryFrom_s {w:Int} (h0:0≤w) (h1:w≤4095):F_spec_EntryFrom w=some (dec w):=by
 unfold F_spec_EntryFrom
 rw [wordOk_s,show M.wordOk w=true from M.inR_iff.2 ⟨h0,h1⟩]
 simp only [Option.bind_some,Bool.not_true,cond_false]
 rw [(div_in h0 h1 (k:=2) (by omega)).1,(div_in h0 h1 (k:=4) (by omega)).1,(div_in h0 h1 (k:=8) (by omega)).1,Int.tmod_eq_emod_of_nonneg h0,Int.tmod_eq_emod_of_nonneg (div_in h0 h1 (k:=2) (by omega)).2,Int.tmod_eq_emod_of_nonneg (div_in h0 h1 (k:=4) (by omega)).2,Int.tmod_eq_emod_of_nonneg (div_in h0 h1 (k:=8) (by omega)).2]
 rfl
end Go.Proofs.Ytbanbjdcgdmkaaa
namespace Go.Proofs.Ytbanbjdcgdmkaaa
set_option linter.all false
namespace M
def lets (e:DEntry) (user write:Bool):Bool:=e.There && (e.Write || !write) && (e.User || !user)
def walk (mem:List Int) (root addr:Int) (user write:Bool):Int :=
 bif memOk mem && inR (-1) 7 root && inR 0 63 addr then
  bif decide (root = -1) then addr else
   bif lets (dec (mem.getD (root*8+addr / 8).toNat default)) user write then (dec (mem.getD (root*8+addr / 8).toNat default)).Page*8+addr % 8 else -1
 else -1
end M
end Go.Proofs.Ytbanbjdcgdmkaaa
namespace Go.Proofs.Ytbanbjdcgdmkaaa
set_option linter.all false
end Go.Proofs.Ytbanbjdcgdmkaaa
namespace Go.Proofs.Ytbanbjdcgdmkaaa
set_option linter.all false
namespace M
def insOk (x:DIns):Bool:=inR 0 15 x.Op && inR 0 3 x.A && inR 0 63 x.N
end M
theorem insOk_s (x:DIns):F_spec_InsOk x=some (M.insOk x):=by
 unfold F_spec_InsOk
 rw [l1In_s,l1In_s,l1In_s]
 simp only [Option.bind_some,M.insOk]
 cases M.inR 0 15 x.Op <;> cases M.inR 0 3 x.A <;> cases M.inR 0 63 x.N <;> rfl
end Go.Proofs.Ytbanbjdcgdmkaaa
namespace Go.Proofs.Ytbanbjdcgdmkaaa
set_option linter.all false
theorem core_s {c:DCore} (h:SmallC c):F_spec_l3Core c=some c:=by
 have:=h.regs
 unfold F_spec_l3Core
 rw [grd_t ⟨by simp; omega,by simp; omega⟩]; rfl
end Go.Proofs.Ytbanbjdcgdmkaaa
namespace Go.Proofs.Ytbanbjdcgdmkaaa
set_option linter.all false
namespace M
def reg (c:DCore) (k:Int):Int:=c.Regs.getD k.toNat default
def trap (c:DCore) (src cause bad:Int):DCore:=⟨c.Regs,c.Vector,c.Root,c.Vector,src,c.User,cause,bad,c.Timer,c.Waits,false,false,c.Stopped⟩
def tick (c:DCore):DCore:=bif decide (c.Timer=0) then c else ⟨c.Regs,c.Pc,c.Root,c.Vector,c.Saved,c.SavedUser,c.Cause,c.Bad,c.Timer - 1,(bif decide (c.Timer - 1=0) then true else c.Waits),c.User,c.On,c.Stopped⟩
def ins (w:Int):DIns:=⟨w / 256,w / 64 % 4,w % 64⟩
def kern (op:Int):Bool:=decide (op=0) || inR 8 14 op
def at_ (c:DCore) (pc:Int):DCore:=⟨c.Regs,pc,c.Root,c.Vector,c.Saved,c.SavedUser,c.Cause,c.Bad,c.Timer,c.Waits,c.User,c.On,c.Stopped⟩
def go (c:DCore):DCore:=at_ c ((c.Pc+1) % 64)
def put (c:DCore) (a w:Int):DCore:=⟨c.Regs.set a.toNat w,c.Pc,c.Root,c.Vector,c.Saved,c.SavedUser,c.Cause,c.Bad,c.Timer,c.Waits,c.User,c.On,c.Stopped⟩
def with_ (b:DBare) (c:DCore):DBare:=⟨c,b.Mem,b.In,b.Out⟩
def root (w:Int):Int:=bif decide (w % 16<8) then w % 16 else -1
def first (xs:List Int):Int:=xs.getD 0 default
def cin (b:DBare) (k:Int):Int:=bif decide (k=1) then b.C.Cause else bif decide (k=2) then b.C.Bad else bif decide (k=3) then b.C.Saved else first b.In
def rest (xs:List Int) (k:Int):List Int:=bif decide (k=0) then xs.drop 1 else xs
def kdo (b:DBare) (i:DIns):DBare :=
 bif decide (i.Op=0) then with_ b ⟨b.C.Regs,b.C.Pc,b.C.Root,b.C.Vector,b.C.Saved,b.C.SavedUser,b.C.Cause,b.C.Bad,b.C.Timer,b.C.Waits,b.C.User,b.C.On,true⟩
 else bif decide (i.Op=8) then with_ b (go ⟨b.C.Regs,b.C.Pc,root (reg b.C i.A),b.C.Vector,b.C.Saved,b.C.SavedUser,b.C.Cause,b.C.Bad,b.C.Timer,b.C.Waits,b.C.User,b.C.On,b.C.Stopped⟩)
 else bif decide (i.Op=9) then with_ b (go ⟨b.C.Regs,b.C.Pc,b.C.Root,reg b.C i.A % 64,b.C.Saved,b.C.SavedUser,b.C.Cause,b.C.Bad,b.C.Timer,b.C.Waits,b.C.User,b.C.On,b.C.Stopped⟩)
 else bif decide (i.Op=10) then with_ b (go ⟨b.C.Regs,b.C.Pc,b.C.Root,b.C.Vector,b.C.Saved,b.C.SavedUser,b.C.Cause,b.C.Bad,reg b.C i.A,b.C.Waits,b.C.User,b.C.On,b.C.Stopped⟩)
 else bif decide (i.Op=11) then with_ b ⟨b.C.Regs,b.C.Saved,b.C.Root,b.C.Vector,b.C.Saved,b.C.SavedUser,b.C.Cause,b.C.Bad,b.C.Timer,b.C.Waits,b.C.SavedUser,true,b.C.Stopped⟩
 else bif decide (i.Op=12) then with_ b (go ⟨b.C.Regs,b.C.Pc,b.C.Root,b.C.Vector,b.C.Saved,b.C.SavedUser,b.C.Cause,b.C.Bad,b.C.Timer,b.C.Waits,b.C.User,decide (i.N % 2=1),b.C.Stopped⟩)
 else bif decide (i.Op=13) then ⟨go b.C,b.Mem,b.In,bif decide (b.Out.length<30) then b.Out ++ [reg b.C i.A] else b.Out⟩
 else ⟨go (put b.C i.A (cin b (i.N % 4))),b.Mem,rest b.In (i.N % 4),b.Out⟩
def plain (c:DCore) (i:DIns):DCore :=
 bif decide (i.Op=1) then go (put c i.A i.N)
 else bif decide (i.Op=2) then go (put c i.A ((reg c i.A+reg c (i.N % 4)) % 4096))
 else bif decide (i.Op=15) then go (put c i.A ((reg c i.A - reg c (i.N % 4)+4096) % 4096))
 else bif decide (i.Op=5) then at_ c i.N
 else bif decide (i.Op=6) then bif decide (reg c i.A=0) then go c else at_ c i.N
 else trap c ((c.Pc+1) % 64) 1 0
def mdo (b:DBare) (i:DIns):DBare :=
 bif decide (walk b.Mem b.C.Root (reg b.C (i.N % 4) % 64) b.C.User (decide (i.Op=4)) = -1) then with_ b (trap b.C b.C.Pc 2 (reg b.C (i.N % 4) % 64))
 else bif decide (i.Op=3) then with_ b (go (put b.C i.A (b.Mem.getD (walk b.Mem b.C.Root (reg b.C (i.N % 4) % 64) b.C.User false).toNat default)))
 else ⟨go b.C,b.Mem.set (walk b.Mem b.C.Root (reg b.C (i.N % 4) % 64) b.C.User true).toNat (reg b.C i.A),b.In,b.Out⟩
def did (b:DBare) (i:DIns):DBare :=
 bif kern i.Op then bif b.C.User then with_ b (trap b.C b.C.Pc 3 0) else kdo b i
 else bif decide (i.Op=3) || decide (i.Op=4) then mdo b i else with_ b (plain b.C i)
def quiet (c:DCore):DCore:=⟨c.Regs,c.Pc,c.Root,c.Vector,c.Saved,c.SavedUser,c.Cause,c.Bad,c.Timer,false,c.User,c.On,c.Stopped⟩
def step (b:DBare):DBare :=
 bif b.C.Stopped then b
 else bif (tick b.C).Waits && (tick b.C).On then with_ b (trap (quiet (tick b.C)) (tick b.C).Pc 4 0)
 else bif decide (walk b.Mem (tick b.C).Root (tick b.C).Pc (tick b.C).User false = -1) then with_ b (trap (tick b.C) (tick b.C).Pc 2 (tick b.C).Pc)
 else did (with_ b (tick b.C)) (ins (b.Mem.getD (walk b.Mem (tick b.C).Root (tick b.C).Pc (tick b.C).User false).toNat default))
end M
theorem insOk_i (x:DIns):F_impl_InsOk x=some (M.insOk x):=by
 unfold F_impl_InsOk
 simp only [M.insOk,M.inR]
 rw [show (4:Int)=3+1 from rfl,show (64:Int)=63+1 from rfl,lt_le,lt_le]
 cases decide (0≤x.Op) <;> cases decide (0≤x.A) <;> cases decide (0≤x.N) <;> cases decide (x.Op≤15) <;> cases decide (x.A≤3) <;> cases decide (x.N≤63) <;> rfl
theorem op_cases {k:Int} (h0:0≤k) (h1:k≤15):k=0∨k=1∨k=2∨k=3∨k=4∨k=5∨k=6∨k=7∨k=8∨k=9∨k=10∨k=11∨k=12∨k=13∨k=14∨k=15:=by omega
theorem insKernel_i {x:DIns} (h:M.insOk x=true):F_impl_InsKernel x=some (M.kern x.Op):=by
 unfold F_impl_InsKernel
 rw [insOk_i,h]
 obtain ⟨op,a,n⟩:=x
 simp only [M.insOk,Bool.and_eq_true,M.inR_iff] at h
 rcases op_cases h.1.1.1 h.1.1.2 with e | e | e | e | e | e | e | e | e | e | e | e | e | e | e | e <;> subst e <;> rfl
theorem insKernel_s {x:DIns} (h:M.insOk x=true):F_spec_InsKernel x=some (M.kern x.Op):=by
 unfold F_spec_InsKernel
 rw [insOk_s,h,l1In_s]
 simp only [Option.bind_some,cond_true,M.kern]
 cases decide (x.Op=0) <;> rfl
theorem insFrom_i {w:Int} (h0:0≤w) (h1:w≤4095):F_impl_InsFrom w=some (M.ins w):=by
 unfold F_impl_InsFrom
 rw [wordOk_i,show M.wordOk w=true from M.inR_iff.2 ⟨h0,h1⟩]
 simp only [Option.bind_some,Bool.not_true,cond_false]
 rw [(div_in h0 h1 (k:=256) (by omega)).1,(div_in h0 h1 (k:=64) (by omega)).1,Int.tmod_eq_emod_of_nonneg (div_in h0 h1 (k:=64) (by omega)).2,Int.tmod_eq_emod_of_nonneg h0]
 rfl
theorem insFrom_s {w:Int} (h0:0≤w) (h1:w≤4095):F_spec_InsFrom w=some (M.ins w):=by
 unfold F_spec_InsFrom
 rw [wordOk_s,show M.wordOk w=true from M.inR_iff.2 ⟨h0,h1⟩]
 simp only [Option.bind_some,Bool.not_true,cond_false]
 rw [(div_in h0 h1 (k:=256) (by omega)).1,(div_in h0 h1 (k:=64) (by omega)).1,Int.tmod_eq_emod_of_nonneg (div_in h0 h1 (k:=64) (by omega)).2,Int.tmod_eq_emod_of_nonneg h0]
 rfl
theorem ins_ok {w:Int} (h0:0≤w) (h1:w≤4095):M.insOk (M.ins w)=true:=by
 simp only [M.insOk,M.ins,Bool.and_eq_true,M.inR_iff]; omega
structure BOk (b : DBare) : Prop where
 regs:b.C.Regs.length=4
 words:M.wordsOk b.C.Regs=true
 pc:0≤b.C.Pc∧b.C.Pc≤63
 vec:0≤b.C.Vector∧b.C.Vector≤63
 sav:0≤b.C.Saved∧b.C.Saved≤63
 bad:0≤b.C.Bad∧b.C.Bad≤63
 root:-1≤b.C.Root∧b.C.Root≤7
 cause:0≤b.C.Cause∧b.C.Cause≤4
 timer:0≤b.C.Timer∧b.C.Timer≤4095
 mem:M.memOk b.Mem=true
 inn:b.In.length≤30
 inw:M.wordsOk b.In=true
 out:b.Out.length≤30
 outw:M.wordsOk b.Out=true
theorem bOk_iff {b:DBare}:M.bareOk b=true↔BOk b:=by
 simp only [M.bareOk,M.coreOk,M.rowOk,M.wordOk,Bool.and_eq_true,decide_eq_true_eq,M.inR_iff]
 constructor
 · rintro ⟨⟨⟨⟨⟨⟨⟨⟨a1,a2⟩,⟨⟨a3,a4⟩,a5⟩,a6⟩,a7⟩,a8⟩,a9⟩,a10⟩,a11,a12⟩,a13,a14⟩
   exact ⟨a1,a2,a3,a4,a5,a6,a7,a8,a9,a10,a11,a12,a13,a14⟩
 · rintro ⟨a1,a2,a3,a4,a5,a6,a7,a8,a9,a10,a11,a12,a13,a14⟩
   exact ⟨⟨⟨⟨⟨⟨⟨⟨a1,a2⟩,⟨⟨a3,a4⟩,a5⟩,a6⟩,a7⟩,a8⟩,a9⟩,a10⟩,a11,a12⟩,a13,a14⟩
theorem BOk.len {b:DBare} (h:BOk b):b.Mem.length=64:=memOk_len h.mem
theorem BOk.reg {b:DBare} (h:BOk b) {k:Int} (h0:0≤k) (h1:k<4):0≤M.reg b.C k∧M.reg b.C k≤4095:=wordsOk_get h.words (by have:=h.regs; omega)
structure KOk (b : DBare) : Prop where
 regs:b.C.Regs.length=4
 words:M.wordsOk b.C.Regs=true
 pc:0≤b.C.Pc∧b.C.Pc≤63
 vec:0≤b.C.Vector∧b.C.Vector≤63
 sav:0≤b.C.Saved∧b.C.Saved≤63
 bad:0≤b.C.Bad∧b.C.Bad≤63
 root:-1≤b.C.Root∧b.C.Root≤7
 cause:0≤b.C.Cause∧b.C.Cause≤4
 timer:0≤b.C.Timer∧b.C.Timer≤4095
 inn:b.In.length≤30
 inw:M.wordsOk b.In=true
 out:b.Out.length≤30
 outw:M.wordsOk b.Out=true
theorem BOk.k {b:DBare} (h:BOk b):KOk b:=⟨h.regs,h.words,h.pc,h.vec,h.sav,h.bad,h.root,h.cause,h.timer,h.inn,h.inw,h.out,h.outw⟩
theorem KOk.reg {b:DBare} (h:KOk b) {k:Int} (h0:0≤k) (h1:k<4):0≤M.reg b.C k∧M.reg b.C k≤4095:=wordsOk_get h.words (by have:=h.regs; omega)
theorem KOk.to {b b':DBare} (h:KOk b) (h1:b'.C=b.C) (h2:b'.In=b.In) (h3:b'.Out=b.Out):KOk b':=by
 obtain ⟨c,m,i,o⟩:=b'
 simp only at h1 h2 h3
 subst h1 h2 h3
 exact ⟨h.regs,h.words,h.pc,h.vec,h.sav,h.bad,h.root,h.cause,h.timer,h.inn,h.inw,h.out,h.outw⟩
section
variable {b : DBare} {op a n : Int}
theorem KOk.gA (hb:KOk b) (h0:0≤a) (h1:a≤3):0≤a∧a<((b.C.Regs.length:Nat):Int):=by have:=hb.regs; omega
theorem tmod4 (h0:0≤n):Int.tmod n 4=n % 4:=Int.tmod_eq_emod_of_nonneg h0
theorem addressOf_i (hb:KOk b) (h0:0≤n):F_impl_addressOf b.C ⟨op,a,n⟩=some (M.reg b.C (n % 4) % 64):=by
 unfold F_impl_addressOf
 simp only [tmod4 h0]
 rw [grd_t (hb.gA (by omega) (by omega)),show b.C.Regs.getD (n % 4).toNat default=M.reg b.C (n % 4) from rfl,Int.tmod_eq_emod_of_nonneg (hb.reg (by omega) (by omega)).1]
end
theorem ticked_i {c:DCore} (h0:0≤c.Timer) (h1:c.Timer≤4095):F_impl_ticked c=some (M.tick c):=by
 unfold F_impl_ticked M.tick F_impl_ticked_j1
 rw [w64_in (z:=c.Timer - 1) (by omega) (by omega)]
 cases decide (c.Timer=0) <;> cases decide (c.Timer - 1=0) <;> rfl
theorem ticked_s {c:DCore} (h0:0≤c.Timer) (h1:c.Timer≤4095):F_spec_l3Ticked c=some (bif (M.tick c).Waits && (M.tick c).On then (M.trap (M.quiet (M.tick c)) (M.tick c).Pc 4 0,true) else (M.tick c,false)):=by
 unfold F_spec_l3Ticked F_spec_l3Ticked_j1 F_spec_l3Ticked_j2
 obtain ⟨r,pc,ro,v,s,su,ca,ba,t,w,u,o,st⟩:=c
 simp only at h0 h1
 rw [w64_in (z:=t - 1) (by omega) (by omega)]
 by_cases e:t=0
 · subst e
   simp only [M.tick,decide_true,cond_true,Int.lt_irrefl,decide_false,cond_false,Option.bind_some,JO.run]
   cases w <;> cases o <;> rfl
 · simp only [M.tick,decide_eq_false e,decide_eq_true (show 0<t by omega),cond_true,cond_false]
   by_cases e1:t - 1=0
   · simp only [decide_eq_true e1,cond_true,Option.bind_some,JO.run]
     cases o <;> rfl
   · simp only [decide_eq_false e1,cond_false,Option.bind_some,JO.run]
     cases w <;> cases o <;> rfl
theorem isInterrupted_i (c:DCore):F_impl_isInterrupted c=some (c.Waits && c.On):=by
 unfold F_impl_isInterrupted
 cases c.Waits <;> rfl
end Go.Proofs.Ytbanbjdcgdmkaaa
namespace Go.Proofs.Ytbanbjdcgdmkaaa
set_option linter.all false
namespace M
def zeroC:DCore:=⟨[],0,0,0,0,false,0,0,0,false,false,false,false⟩
def zero:DBare:=⟨zeroC,[],[],[]⟩
end M
section
variable {b : DBare} {op a n : Int}
theorem BOk.tick (hb:BOk b):BOk (M.with_ b (M.tick b.C)):=by
 have ht:=hb.timer
 unfold M.tick
 by_cases e:b.C.Timer=0
 · rw [decide_eq_true e]; exact ⟨hb.regs,hb.words,hb.pc,hb.vec,hb.sav,hb.bad,hb.root,hb.cause,hb.timer,hb.mem,hb.inn,hb.inw,hb.out,hb.outw⟩
 · rw [decide_eq_false e]; exact ⟨hb.regs,hb.words,hb.pc,hb.vec,hb.sav,hb.bad,hb.root,hb.cause,⟨by show 0≤b.C.Timer - 1; omega,by show b.C.Timer - 1≤4095; omega⟩,hb.mem,hb.inn,hb.inw,hb.out,hb.outw⟩
theorem BOk.trap (hb:BOk b) {src cause bad:Int} (h1:0≤src∧src≤63) (h2:0≤cause∧cause≤4) (h3:0≤bad∧bad≤63):BOk (M.with_ b (M.trap b.C src cause bad)) :=
 ⟨hb.regs,hb.words,hb.vec,hb.vec,h1,h3,hb.root,h2,hb.timer,hb.mem,hb.inn,hb.inw,hb.out,hb.outw⟩
theorem BOk.at_ (hb:BOk b) {pc:Int} (h:0≤pc∧pc≤63):BOk (M.with_ b (M.at_ b.C pc)) :=
 ⟨hb.regs,hb.words,h,hb.vec,hb.sav,hb.bad,hb.root,hb.cause,hb.timer,hb.mem,hb.inn,hb.inw,hb.out,hb.outw⟩
theorem BOk.go (hb:BOk b):BOk (M.with_ b (M.go b.C)):=hb.at_ (by omega)
theorem BOk.put (hb:BOk b) {w:Int} (h:0≤w∧w≤4095):BOk (M.with_ b (M.put b.C a w)) :=
 ⟨by show (b.C.Regs.set _ _).length=4; rw [List.length_set]; exact hb.regs,wordsOk_set hb.words h.1 h.2,hb.pc,hb.vec,hb.sav,hb.bad,hb.root,hb.cause,hb.timer,hb.mem,hb.inn,hb.inw,hb.out,hb.outw⟩
theorem BOk.small (hb:BOk b):SmallB b:=⟨⟨by have:=hb.regs; omega⟩,by have:=hb.len; omega,by have:=hb.inn; omega,by have:=hb.out; omega⟩
end
end Go.Proofs.Ytbanbjdcgdmkaaa
namespace Go.Proofs.Ytbanbjdcgdmkaaa
set_option linter.all false
theorem bump_go {xs:List Int} {s:DSlot} {B:Nat} (hs:M.slotOk s=true) (ht:Tl B xs) (hB:B≤1000000000) {Y:Type}:(cond (!decide (s.Frame=(-1:Int))) (grd ((0:Int)≤s.Frame∧s.Frame<((xs.length:Nat):Int)) (grd ((0:Int)≤s.Frame∧s.Frame<((xs.length:Nat):Int)) (some (JO.go (List.set xs (Int.toNat s.Frame) (w64 ((List.getD xs (Int.toNat s.Frame) default)+(1:Int)))))))) (some (JO.go xs)):Option (JO (List Int) Y))=some (.go (M.bump xs s)):=by
 have hr:=slot_range hs
 have hl:=ht.len
 unfold M.bump
 by_cases e:s.Frame = -1
 · rw [decide_eq_true e]; rfl
 · rw [decide_eq_false e]
   have h1:=ht.low s.Frame.toNat (by omega)
   have h2:=ht.top s.Frame.toNat (by omega)
   rw [Bool.not_false,cond_true,cond_false,grd_t ⟨by omega,by omega⟩,grd_t ⟨by omega,by omega⟩,w64_in (by omega) (by omega)]
theorem takers_i {gs:List DGuest} (hl:gs.length≤1048576) (h:gs.all M.guestOk=true):F_impl_frameTakers gs=some (M.takers (M.slots gs)):=by
 have hin:∀ (k:Nat) (g:DGuest) (xs:List Int) (h1:(k:Int)<(gs.length:Int)) (h2:g ∈ gs) (h3:gs.getD k default=g) (h4:Tl (8*k) xs),
  iter (F_impl_frameTakers_l4 gs (xs,(k:Int))) (xs,0)=some (.ret (.go (g.Pages.foldl M.bump xs)))∧Tl (8*k+g.Pages.length) (g.Pages.foldl M.bump xs):=by
  intro k g xs h1 h2 h3 h4
  obtain ⟨g1,g2⟩:=guest_slots (List.all_eq_true.1 h g h2)
  exact fold_loop (xs:=g.Pages) (step:=F_impl_frameTakers_l4 gs (xs,(k:Int))) (fun s j=>(s,j)) M.bump (fun s=>.go s) (fun j s=>Tl (8*k+j) s) (fun j x s a1 a2 a3 a4=>by
   refine ⟨?_,a4.bump (List.all_eq_true.1 g1 x a2)⟩
   simp only [F_impl_frameTakers_l4,Int.toNat_natCast,h3,decide_eq_true a1,cond_true]
   rw [grd_t ⟨by omega,a1⟩,a3,bump_go (List.all_eq_true.1 g1 x a2) a4 (by omega),Option.bind_some]
   simp only [JO.run,F_impl_frameTakers_j5]
   rw [w64_in (by omega) (by omega)]) (fun s _=>by
   simp only [F_impl_frameTakers_l4,Int.toNat_natCast,h3]; rw [decide_eq_false (by omega),cond_false]) xs h4
 have key:=(fold_loop (xs:=gs) (step:=F_impl_frameTakers_l2 gs) (fun s j=>(s,j)) (fun s g=>g.Pages.foldl M.bump s) (fun s=>.go s) (fun k s=>Tl (8*k) s) (fun k g s a1 a2 a3 a4=>by
  obtain ⟨b1,b2⟩:=hin k g s a1 a2 a3 a4
  refine ⟨?_,b2.mono (by have:=(guest_slots (List.all_eq_true.1 h g a2)).2; omega)⟩
  simp only [F_impl_frameTakers_l2,decide_eq_true a1,cond_true]
  rw [grd_t ⟨by omega,a1⟩,b1]
  simp only [Option.bind_some,LO.val,JO.run,F_impl_frameTakers_j3]
  rw [w64_in (by omega) (by omega)]) (fun s _=>by
  simp only [F_impl_frameTakers_l2]; rw [decide_eq_false (by omega),cond_false]) (List.replicate 20 0) (Tl.zero.mono (by omega))).1
 unfold F_impl_frameTakers
 rw [show Int.toNat (20:Int)=20 from rfl,key]
 simp only [Option.bind_some,LO.val,JO.run,F_impl_frameTakers_j1]
 rw [foldl_flatMap']; rfl
theorem alone_i {gs:List DGuest} (hl:gs.length≤1048576) (h:gs.all M.guestOk=true) (hwr:True):F_impl_writersAreAlone gs=some (M.alone (M.slots gs)):=by
 unfold F_impl_writersAreAlone
 rw [takers_i hl h,Option.bind_some]
 have hs:=all_slots h
 have hin:∀ (k:Nat) (g:DGuest) (h1:(k:Int)<(gs.length:Int)) (h2:g ∈ gs) (h3:gs.getD k default=g),
  iter (F_impl_writersAreAlone_l5 gs (M.takers (M.slots gs)) (k:Int)) 0=some (.ret (bif g.Pages.all (fun s=>!s.Write || decide (M.many (M.slots gs) s.Frame≤1)) then .go () else .out (.ret (.out false)))):=by
  intro k g h1 h2 h3
  obtain ⟨g1,g2⟩:=guest_slots (List.all_eq_true.1 h g h2)
  exact (chk_loop (xs:=g.Pages) (σ:=Unit) (step:=F_impl_writersAreAlone_l5 gs (M.takers (M.slots gs)) (k:Int)) (fun _ j=>j) _ (fun _ _=>()) (fun _=>JO.go ()) _ (fun _ _=>True) (fun j x s a1 a2 a3 _=>by
   refine ⟨?_,fun _=>trivial⟩
   have hx:=List.all_eq_true.1 g1 x a2
   have hr:=slot_range hx
   simp only [F_impl_writersAreAlone_l5,Int.toNat_natCast,h3,decide_eq_true a1,cond_true,a3]
   rw [grd_t ⟨by omega,a1⟩]
   cases hw:x.Write with
   | false =>
    simp only [cond_false,Option.bind_some,JO.run,F_impl_writersAreAlone_j6,Bool.not_false,Bool.true_or,cond_true]
    rw [w64_in (by omega) (by omega)]
   | true =>
    have hf:x.Frame≠-1:=fun e=>by
     unfold M.slotOk at hx
     rw [decide_eq_true e,hw] at hx; simp at hx
    have hlt:=takers_len hs
    simp only [cond_true]
    rw [grd_t ⟨by omega,by omega⟩,takers_get hs (by omega),show ((x.Frame.toNat:Nat):Int)=x.Frame by omega]
    by_cases e:M.many (M.slots gs) x.Frame≤1
    · rw [decide_eq_false (by omega),decide_eq_true e]
      simp only [cond_false,Option.bind_some,JO.run,F_impl_writersAreAlone_j6,Bool.not_true,Bool.false_or,cond_true]
      rw [w64_in (by omega) (by omega)]
    · rw [decide_eq_true (by omega),decide_eq_false e]; rfl) (fun s _=>by
   simp only [F_impl_writersAreAlone_l5,Int.toNat_natCast,h3]; rw [decide_eq_false (by omega),cond_false]) () trivial).1
 have key:=(chk_loop (xs:=gs) (σ:=Unit) (step:=F_impl_writersAreAlone_l3 gs (M.takers (M.slots gs))) (fun _ j=>j) (fun g=>g.Pages.all (fun s=>!s.Write || decide (M.many (M.slots gs) s.Frame≤1))) (fun _ _=>()) (fun _=>JO.go ()) (.out false) (fun _ _=>True) (fun k g s a1 a2 a3 _=>by
  refine ⟨?_,fun _=>trivial⟩
  simp only [F_impl_writersAreAlone_l3,decide_eq_true a1,cond_true]
  rw [grd_t ⟨by omega,a1⟩,hin k g a1 a2 a3]
  cases g.Pages.all (fun s=>!s.Write || decide (M.many (M.slots gs) s.Frame≤1)) with
  | false=>rfl
  | true =>
   simp only [cond_true,Option.bind_some,LO.val,JO.run,F_impl_writersAreAlone_j4]
   rw [w64_in (by omega) (by omega)]) (fun s _=>by
  simp only [F_impl_writersAreAlone_l3]; rw [decide_eq_false (by omega),cond_false]) () trivial).1
 rw [key]
 have e:M.alone (M.slots gs)=gs.all (fun g=>g.Pages.all (fun s=>!s.Write || decide (M.many (M.slots gs) s.Frame≤1))):=by
  simp only [M.alone]
  conv=>lhs; arg 1; unfold M.slots
  rw [List.all_flatMap]
 rw [e]
 cases gs.all (fun g=>g.Pages.all (fun s=>!s.Write || decide (M.many (M.slots gs) s.Frame≤1))) <;> rfl
theorem hostOk_i {h:DHost} (hs:SmallH h):F_impl_HostOk h=some (M.hostOk h):=by
 have:=hs.words
 unfold F_impl_HostOk M.hostOk
 by_cases hl:h.Words.length=160
 · rw [show decide (((h.Words.length:Nat):Int)=160)=true by simp; omega,cond_true,wordsOk_i (by omega),decide_eq_true hl,Option.bind_some]
   cases M.wordsOk h.Words with
   | false=>rfl
   | true =>
    rw [cond_true,guestsOk_i hs.guests hs.all,Option.bind_some]
    cases hg:(decide (h.Guests.length=3) && h.Guests.all M.guestOk) with
    | false=>rfl
    | true =>
     rw [Bool.and_eq_true] at hg
     rw [cond_true,alone_i hs.guests hg.2 trivial]; rfl
 · rw [show decide (((h.Words.length:Nat):Int)=160)=false by simp; omega,decide_eq_false hl]; rfl
end Go.Proofs.Ytbanbjdcgdmkaaa
namespace Go.Proofs.Ytbanbjdcgdmkaaa
set_option linter.all false
theorem wordsN_s {xs:List Int} {n:Int} (h:xs.length≤9223372036854775806):F_spec_l3Words xs n=some (decide ((xs.length:Int)≤n) && M.wordsOk xs):=by
 unfold F_spec_l3Words
 rw [all_loop wordOk_s h (F_spec_l3Words_l2 xs) (fun k=>rfl)]
 simp only [M.wordsOk]
 cases xs.all M.wordOk
 · simp [LO.val,JO.run]
 · simp only [LO.val,JO.run,Option.bind_some,F_spec_l3Words_j1,cond_true,Bool.and_true]
namespace M
def bumpW (ws:List Bool) (s:DSlot):List Bool:=bif decide (s.Frame = -1) then ws else ws.set s.Frame.toNat (ws.getD s.Frame.toNat default || s.Write)
def bump2 (p:List Int × List Bool) (s:DSlot):List Int × List Bool:=(bump p.1 s,bumpW p.2 s)
end M
theorem setB_get {xs:List Bool} {i j:Nat} {v:Bool} (hi:i<xs.length):(xs.set i v).getD j default=if i=j then v else xs.getD j default:=by
 by_cases h:i=j
 · subst h; simp [List.getD,hi]
 · simp [List.getD,List.getElem?_set,h]
theorem bumpW_len {xs:List Bool} {s:DSlot}:(M.bumpW xs s).length=xs.length:=by
 unfold M.bumpW; cases decide (s.Frame = -1) <;> simp
theorem bumpW_get {xs:List Bool} {s:DSlot} (hl:xs.length=20) (h:M.slotOk s=true) {f:Nat} (hf:f<20):(M.bumpW xs s).getD f default=(xs.getD f default || (decide (s.Frame=(f:Int)) && s.Write)):=by
 have hr:=slot_range h
 unfold M.bumpW
 by_cases e:s.Frame = -1
 · rw [decide_eq_true e,cond_true,decide_eq_false (by omega)]; simp
 · rw [decide_eq_false e,cond_false,setB_get (by omega)]
   by_cases e2:s.Frame=(f:Int)
   · rw [if_pos (by omega),decide_eq_true e2,Bool.true_and]; congr 2; omega
   · rw [if_neg (by omega),decide_eq_false e2]; simp
theorem bump2_fst:∀ {ss:List DSlot} {p:List Int × List Bool},(ss.foldl M.bump2 p).1=ss.foldl M.bump p.1
 | [],_=>rfl
 | s::ss,p=>by rw [List.foldl_cons,bump2_fst]; rfl
theorem bump2_snd {f:Nat} (hf:f<20):∀ {ss:List DSlot} {p:List Int × List Bool},p.2.length=20→ss.all M.slotOk=true→(ss.foldl M.bump2 p).2.length=20∧(ss.foldl M.bump2 p).2.getD f default=(p.2.getD f default || ss.any fun s=>decide (s.Frame=(f:Int)) && s.Write)
 | [],p,hl,_=>⟨hl,by simp⟩
 | s::ss,p,hl,h=>by
  rw [List.all_cons,Bool.and_eq_true] at h
  obtain ⟨h1,h2⟩:=bump2_snd hf (ss:=ss) (p:=M.bump2 p s) (by simpa [M.bump2,bumpW_len] using hl) h.2
  refine ⟨h1,?_⟩
  rw [List.foldl_cons,h2,List.any_cons]
  simp only [M.bump2]
  rw [bumpW_get hl h.1 hf,Bool.or_assoc]
structure Tw (B : Nat) (p : List Int × List Bool) : Prop where
 tl:Tl B p.1
 len:p.2.length=20
theorem Tw.bump {B:Nat} {p:List Int × List Bool} {s:DSlot} (h:Tw B p) (hs:M.slotOk s=true):Tw (B+1) (M.bump2 p s):=⟨h.tl.bump hs,by simp [M.bump2,bumpW_len,h.len]⟩
theorem pages_s {h:DHost} {k:Nat} {g:DGuest} {p:List Int × List Bool} {B:Nat} (hl:g.Pages.length≤8) (h3:h.Guests.getD k default=g) (ht:Tw B p) (hB:B≤1000000) :
 iter (F_spec_HostOk_l12 h (p.1,p.2,(k:Int))) (p.1,p.2,0)=some (.ret (bif g.Pages.all M.slotOk then .go ((g.Pages.foldl M.bump2 p).1,(g.Pages.foldl M.bump2 p).2) else .out (.ret (.out false))))∧(g.Pages.all M.slotOk=true→Tw (B+g.Pages.length) (g.Pages.foldl M.bump2 p)):=by
 exact chk_loop (xs:=g.Pages) (step:=F_spec_HostOk_l12 h (p.1,p.2,(k:Int))) (fun s j=>(s.1,s.2,j)) M.slotOk M.bump2 (fun s=>.go (s.1,s.2)) (.out (.ret (.out false))) (fun j s=>Tw (B+j) s) (fun j x s a1 a2 a3 a4=>by
  refine ⟨?_,fun hx=>a4.bump hx⟩
  simp only [F_spec_HostOk_l12,Int.toNat_natCast,h3,decide_eq_true a1,cond_true,a3]
  rw [grd_t ⟨by omega,a1⟩,l1In_s,Option.bind_some]
  have hgo:M.slotOk x=true→F_spec_HostOk_j14 h (p.1,p.2,(k:Int)) (s.1,s.2,(j:Int)) ()=some (.go ((M.bump2 s x).2,(M.bump2 s x).1)):=fun hx=>by
   have hr:=slot_range hx
   have hl1:=a4.tl.len
   have hl2:=a4.len
   simp only [F_spec_HostOk_j14,Int.toNat_natCast,h3,a3,M.bump2,M.bump,M.bumpW]
   by_cases e:x.Frame = -1
   · rw [decide_eq_false (p:=(0:Int)≤x.Frame) (by omega),decide_eq_true e]; rfl
   · have q1:=a4.tl.low x.Frame.toNat (by omega)
     have q2:=a4.tl.top x.Frame.toNat (by omega)
     rw [decide_eq_true (p:=(0:Int)≤x.Frame) (by omega),decide_eq_false e]
     simp only [cond_true,cond_false]
     rw [grd_t ⟨by omega,by omega⟩,grd_t ⟨by omega,by omega⟩,grd_t ⟨by omega,by omega⟩,w64_in (by omega) (by omega)]
     cases hw:s.2.getD x.Frame.toNat default with
     | true=>rw [cond_true,grd_t ⟨by omega,by omega⟩,Bool.true_or]
     | false=>rw [cond_false,grd_t ⟨by omega,by omega⟩,Bool.false_or]
  by_cases e:x.Frame = -1
  · have hin:M.inR (-1) 19 x.Frame=true:=by rw [M.inR_iff]; omega
    rw [hin,Bool.not_true,cond_false,decide_eq_true e,cond_true]
    cases hw:x.Write with
    | true =>
     have:M.slotOk x=false:=by unfold M.slotOk; rw [decide_eq_true e,hw]; rfl
     rw [this]; rfl
    | false =>
     cases hd:x.Dirty with
     | true =>
      have:M.slotOk x=false:=by unfold M.slotOk; rw [decide_eq_true e,hw,hd]; rfl
      rw [this]; rfl
     | false =>
      have hx:M.slotOk x=true:=by unfold M.slotOk; rw [decide_eq_true e,hw,hd]; rfl
      rw [hx]
      simp only [cond_false,Option.bind_some,JO.run,hgo hx,F_spec_HostOk_j13,cond_true]
      rw [w64_in (by omega) (by omega)]
  · by_cases hin:M.inR (-1) 19 x.Frame=true
    · have hr:=M.inR_iff.1 hin
      have hx:M.slotOk x=true:=by unfold M.slotOk; rw [decide_eq_false e,cond_false,Bool.and_eq_true,decide_eq_true_eq,decide_eq_true_eq]; omega
      rw [hin,Bool.not_true,cond_false,decide_eq_false e,cond_false,hx]
      simp only [Option.bind_some,JO.run,hgo hx,F_spec_HostOk_j13,cond_true]
      rw [w64_in (by omega) (by omega)]
    · have hn:¬ (-1≤x.Frame∧x.Frame≤19):=fun c=>hin (M.inR_iff.2 c)
      have hx:M.slotOk x=false:=by
       cases hh:M.slotOk x with
       | false=>rfl
       | true=>have:=slot_range hh; omega
      rw [Bool.eq_false_iff.2 hin,hx]; rfl) (fun s _=>by
  simp only [F_spec_HostOk_l12,Int.toNat_natCast,h3]; rw [decide_eq_false (by omega),cond_false]) p ht
theorem guests_s {h:DHost} (hs:SmallH h) (hl:h.Guests.length=3) :
 iter (F_spec_HostOk_l6 h) (List.replicate 20 0,List.replicate 20 false,0)=some (.ret (bif h.Guests.all M.guestOk then .go (((M.slots h.Guests).foldl M.bump2 (List.replicate 20 0,List.replicate 20 false)).1,((M.slots h.Guests).foldl M.bump2 (List.replicate 20 0,List.replicate 20 false)).2) else .out false)):=by
 have key:=(chk_loop (xs:=h.Guests) (step:=F_spec_HostOk_l6 h) (fun (s:List Int × List Bool) j=>(s.1,s.2,j)) M.guestOk (fun s g=>g.Pages.foldl M.bump2 s) (fun s=>JO.go (s.1,s.2)) (.out false) (fun j s=>Tw (8*j) s) (fun k g s a1 a2 a3 a4=>by
  have hg:=hs.all g a2
  have:=hg.c.regs; have:=hg.pages; have:=hg.i; have:=hg.o
  refine ⟨?_,fun hx=>?_⟩
  · simp only [F_spec_HostOk_l6,Int.toNat_natCast,decide_eq_true a1,cond_true,a3]
    rw [grd_t ⟨by omega,a1⟩]
    cases hlv:g.Live with
    | false =>
     have e:F_spec_l4Zero (DGuest.mk false (DCore.mk g.C.Regs g.C.Pc g.C.Root g.C.Vector g.C.Saved g.C.SavedUser g.C.Cause g.C.Bad g.C.Timer g.C.Waits g.C.User g.C.On g.C.Stopped) g.Pages g.In g.Out)=some (decide (g=M.noGuest)):=by
      have:=zero_s hlv
      obtain ⟨l,c,p,i,o⟩:=g
      simp only at hlv
      subst hlv
      exact this
     rw [Bool.not_false,cond_true,e,Option.bind_some]
     have e2:M.guestOk g=decide (g=M.noGuest):=by unfold M.guestOk; rw [hlv]; rfl
     rw [e2]
     by_cases hz:g=M.noGuest
     · rw [decide_eq_true hz,hz]
       simp only [Bool.not_true,cond_false,Option.bind_some,JO.run,F_spec_HostOk_j7,cond_true,M.noGuest,List.foldl_nil]
       rw [w64_in (by omega) (by omega)]
     · rw [decide_eq_false hz]; rfl
    | true =>
     rw [Bool.not_true,cond_false]
     have e2:M.guestOk g=(M.coreOk g.C && (decide (g.Pages.length=8) && g.Pages.all M.slotOk) && M.rowOk g.In && M.rowOk g.Out):=by unfold M.guestOk; rw [hlv]; rfl
     show Option.bind (Option.bind (F_spec_CoreOk g.C) _) _=_
     rw [coreOk_s (by omega),Option.bind_some,e2]
     cases hc:M.coreOk g.C with
     | false=>rfl
     | true =>
      rw [Bool.not_true,cond_false,Bool.true_and]
      by_cases hp:g.Pages.length=8
      · rw [decide_eq_true hp,show decide (((g.Pages.length:Nat):Int)=8)=true by simp; omega,Bool.not_true,cond_false,words_s (by omega),Option.bind_some,words_s (by omega)]
        cases hri:M.rowOk g.In with
        | false=>simp [JO.run]
        | true =>
         rw [Bool.not_true,cond_false,Option.bind_some]
         cases hro:M.rowOk g.Out with
         | false=>simp [JO.run]
         | true =>
          rw [Bool.not_true,cond_false,(pages_s (by omega) a3 a4 (by omega)).1]
          cases hpp:g.Pages.all M.slotOk with
          | false=>rfl
          | true =>
           simp only [cond_true,Option.bind_some,LO.val,JO.run,F_spec_HostOk_j7,Bool.and_self]
           rw [w64_in (by omega) (by omega)]
      · rw [decide_eq_false hp,show decide (((g.Pages.length:Nat):Int)=8)=false by simp; omega]; rfl
  · obtain ⟨q1,q2⟩:=guest_slots hx
    have:=(pages_s q2 a3 a4 (by omega)).2 q1
    exact ⟨this.tl.mono (by omega),this.len⟩) (fun s _=>by
  simp only [F_spec_HostOk_l6]; rw [decide_eq_false (by omega),cond_false]) (List.replicate 20 0,List.replicate 20 false) ⟨Tl.zero.mono (by omega),by simp⟩).1
 rw [foldl_flatMap'] at key
 exact key
theorem alone_s {ss:List DSlot} (h:ss.all M.slotOk=true):((List.range 20).all fun f=>!(decide (1<M.many ss (f:Int)) && ss.any fun s=>decide (s.Frame=(f:Int)) && s.Write))=M.alone ss:=by
 apply dbe
 simp only [M.alone,List.all_eq_true,List.mem_range,Bool.not_eq_true',Bool.and_eq_false_iff,decide_eq_false_iff_not,List.any_eq_false,Bool.and_eq_true,decide_eq_true_eq,Bool.or_eq_true,not_and]
 constructor
 · intro q s hs
   cases hw:s.Write with
   | false=>exact .inl rfl
   | true =>
    have hx:=List.all_eq_true.1 h s hs
    have hr:=slot_range hx
    have hf:s.Frame≠-1:=fun e=>by
     unfold M.slotOk at hx
     rw [decide_eq_true e,hw] at hx; simp at hx
    rcases q s.Frame.toNat (by omega) with q | q
    · rw [show ((s.Frame.toNat:Nat):Int)=s.Frame by omega] at q
      exact .inr (by omega)
    · exact absurd hw (by simpa using q s hs (by omega))
 · intro q f hf
   by_cases hm:1<M.many ss (f:Int)
   · refine .inr fun s hs e=>?_
     rcases q s hs with q | q
     · simp [q]
     · rw [e] at q; omega
   · exact .inl hm
theorem hostOk_s {h:DHost} (hs:SmallH h):F_spec_HostOk h=some (M.hostOk h):=by
 have:=hs.words
 unfold F_spec_HostOk M.hostOk
 rw [wordsN_s (by omega),Option.bind_some]
 by_cases hl:h.Words.length=160
 · rw [decide_eq_true (p:=(h.Words.length:Int)≤160) (by omega),decide_eq_true hl]
   cases M.wordsOk h.Words with
   | false=>rfl
   | true =>
    rw [Bool.true_and,Bool.not_true,cond_false,decide_eq_true (p:=((h.Words.length:Nat):Int)=160) (by omega),Bool.not_true,cond_false]
    by_cases hg:h.Guests.length=3
    · rw [decide_eq_true hg,decide_eq_true (p:=((h.Guests.length:Nat):Int)=3) (by omega),Bool.not_true,cond_false]
      rw [show Int.toNat (20:Int)=20 from rfl,guests_s hs hg]
      cases ha:h.Guests.all M.guestOk with
      | false=>rfl
      | true =>
       have hsl:=all_slots ha
       simp only [cond_true,Option.bind_some,LO.val,JO.run,F_spec_HostOk_j2,Bool.true_and]
       rw [bump2_fst]
       have key:=chkn_loop (n:=20) (step:=F_spec_HostOk_l4 ((M.slots h.Guests).foldl M.bump (List.replicate 20 0),((M.slots h.Guests).foldl M.bump2 (List.replicate 20 0,List.replicate 20 false)).2)) (fun k=>k) (fun f=>!(decide (1<M.many (M.slots h.Guests) (f:Int)) && (M.slots h.Guests).any fun s=>decide (s.Frame=(f:Int)) && s.Write)) (JO.go ()) (.out false) (fun i hi=>by
        have q1:=takers_get hsl hi
        have q2:=takers_len hsl
        obtain ⟨q3,q4⟩:=bump2_snd hi (p:=(List.replicate 20 0,List.replicate 20 false)) (by simp) hsl
        unfold M.takers at q1 q2
        simp only [F_spec_HostOk_l4,Int.toNat_natCast]
        have e0:decide ((1:Int)<(List.foldl M.bump (List.replicate 20 0) (M.slots h.Guests)).getD i default)=decide (1<M.many (M.slots h.Guests) (i:Int)):=by rw [decide_eq_decide,q1]; omega
        rw [decide_eq_true (p:=(i:Int)<20) (by omega),cond_true,grd_t ⟨by omega,by omega⟩,e0,q4]
        rw [show (List.replicate 20 false).getD i default=false by rw [getD_lt (by rw [List.length_replicate]; omega),List.getElem_replicate],Bool.false_or]
        by_cases e:1<M.many (M.slots h.Guests) (i:Int)
        · rw [decide_eq_true e,cond_true,grd_t ⟨by omega,by omega⟩]
          cases (M.slots h.Guests).any fun s=>decide (s.Frame=(i:Int)) && s.Write with
          | true=>rfl
          | false =>
           simp only [cond_false,Option.bind_some,JO.run,F_spec_HostOk_j5,Bool.and_false,Bool.not_false,cond_true]
           rw [w64_in (by omega) (by omega)]
        · rw [decide_eq_false e]
          simp only [cond_false,Option.bind_some,JO.run,F_spec_HostOk_j5,Bool.false_and,Bool.not_false,cond_true]
          rw [w64_in (by omega) (by omega)]) (by
        simp only [F_spec_HostOk_l4]; rfl)
       rw [key,alone_s hsl]
       cases M.alone (M.slots h.Guests) <;> rfl
    · rw [decide_eq_false hg,decide_eq_false (p:=((h.Guests.length:Nat):Int)=3) (by omega)]; rfl
 · rw [decide_eq_false hl,decide_eq_false (p:=((h.Words.length:Nat):Int)=160) (by omega)]
   cases (decide ((h.Words.length:Int)≤160) && M.wordsOk h.Words) <;> rfl
end Go.Proofs.Ytbanbjdcgdmkaaa
namespace Go.Proofs.Ytbanbjdcgdmkaaa
set_option linter.all false
structure HOk (h : DHost) : Prop where
 len:h.Words.length=160
 words:M.wordsOk h.Words=true
 three:h.Guests.length=3
 all:h.Guests.all M.guestOk=true
 alone:M.alone (M.slots h.Guests)=true
theorem hOk_iff {h:DHost}:M.hostOk h=true↔HOk h:=by
 unfold M.hostOk
 simp only [Bool.and_eq_true,decide_eq_true_eq]
 exact ⟨fun ⟨⟨⟨a,b⟩,c,d⟩,e⟩=>⟨a,b,c,d,e⟩,fun h=>⟨⟨⟨h.len,h.words⟩,h.three,h.all⟩,h.alone⟩⟩
end Go.Proofs.Ytbanbjdcgdmkaaa
namespace Go.Proofs.Ytbanbjdcgdmkaaa
set_option linter.all false
namespace M
noncomputable def there (h:DHost) (g:Int):Bool:=hostOk h && (inR 0 2 g && (h.Guests.getD g.toNat default).Live)
end M
theorem there_iff {h:DHost} {g:Int}:M.there h g=true↔HOk h∧0≤g∧g≤2∧(h.Guests.getD g.toNat default).Live=true:=by
 unfold M.there
 rw [Bool.and_eq_true,Bool.and_eq_true,hOk_iff,M.inR_iff]
 exact ⟨fun ⟨a,⟨b,c⟩,d⟩=>⟨a,b,c,d⟩,fun ⟨a,b,c,d⟩=>⟨a,⟨b,c⟩,d⟩⟩
theorem hasGuest_i {h:DHost} {g:Int} (hs:SmallH h):F_impl_hasGuest h g=some (M.there h g):=by
 unfold F_impl_hasGuest M.there
 rw [hostOk_i hs,Option.bind_some]
 cases hh:M.hostOk h with
 | false=>rfl
 | true =>
  have hk:=hOk_iff.1 hh
  simp only [cond_true,Bool.true_and,M.inR]
  by_cases h0:0≤g
  · by_cases h1:g<3
    · have:=hk.three
      rw [decide_eq_true h0,decide_eq_true h1,decide_eq_true (p:=g≤2) (by omega),cond_true,cond_true,grd_t ⟨h0,by omega⟩]; rfl
    · rw [decide_eq_true h0,decide_eq_false h1,decide_eq_false (p:=g≤2) (by omega)]; rfl
  · rw [decide_eq_false h0]; rfl
theorem live_s {h:DHost} {g:Int} (hs:SmallH h):F_spec_l4Live h g=some (M.there h g):=by
 unfold F_spec_l4Live M.there
 rw [hostOk_s hs,Option.bind_some]
 cases hh:M.hostOk h with
 | false=>rfl
 | true =>
  have hk:=hOk_iff.1 hh
  have:=hk.three
  rw [cond_true,Bool.true_and,l1In_s,Option.bind_some]
  cases hi:M.inR 0 2 g with
  | false=>rfl
  | true =>
   have:=M.inR_iff.1 hi
   rw [cond_true,Bool.true_and,grd_t ⟨by omega,by omega⟩]
end Go.Proofs.Ytbanbjdcgdmkaaa
namespace Go.Proofs.Ytbanbjdcgdmkaaa
set_option linter.all false
theorem page_get {xs:List Int} {o a:Nat} (ha:a<8):((xs.drop o).take 8).getD a default=xs.getD (o+a) default:=by
 simp only [List.getD_eq_getElem?_getD]
 rw [List.getElem?_take_of_lt ha,List.getElem?_drop]
theorem page_len {xs:List Int} {o:Nat} (h:o+8≤xs.length):((xs.drop o).take 8).length=8:=by simp; omega
namespace M
def word (ws:List Int) (ps:List DSlot) (a:Nat):Int:=if (ps.getD (a / 8) default).Frame<0 then 0 else ws.getD ((ps.getD (a / 8) default).Frame.toNat*8+a % 8) default
def mem (ws:List Int) (ps:List DSlot):List Int:=(List.range 64).map (word ws ps)
def page (ws:List Int) (f:Nat):List Int:=(ws.drop (f*8)).take 8
end M
theorem mem_len {ws:List Int} {ps:List DSlot}:(M.mem ws ps).length=64:=by simp [M.mem]
theorem mem_get {ws:List Int} {ps:List DSlot} {a:Nat} (ha:a<64):(M.mem ws ps).getD a default=M.word ws ps a:=by
 rw [getD_lt (by rw [mem_len]; exact ha)]; simp [M.mem]
theorem pageOf_i {xs:List Int} {f:Int} (h0:0≤f) (h1:f*8+8≤xs.length) (h2:f≤1000000):F_impl_pageOf xs f=some (M.page xs f.toNat):=by
 unfold F_impl_pageOf M.page
 rw [w64_in (z:=f*8) (by omega) (by omega),w64_in (z:=f+1) (by omega) (by omega),w64_in (z:=(f+1)*8) (by omega) (by omega),grd_t ⟨by omega,by omega,by omega⟩]
 rw [show Int.toNat ((f+1)*8) - Int.toNat (f*8)=8 by omega,show Int.toNat (f*8)=f.toNat*8 by omega]
theorem slot_getD {ps:List DSlot} (hp:ps.all M.slotOk=true) {i:Nat} (hi:i<ps.length):-1≤(ps.getD i default).Frame∧(ps.getD i default).Frame<20:=slot_range (List.all_eq_true.1 hp _ (getD_mem hi))
structure Live (h : DHost) (g : Int) (x : DGuest) : Prop where
 small:SmallG x
 ok:HOk h
 lo:0≤g
 hi:g≤2
 at_:h.Guests.getD g.toNat default=x
 live:x.Live=true
 core:M.coreOk x.C=true
 pages:x.Pages.length=8
 slots:x.Pages.all M.slotOk=true
 inn:M.rowOk x.In=true
 out:M.rowOk x.Out=true
theorem there_live {h:DHost} {g:Int} (hs:SmallH h) (ht:M.there h g=true):Live h g (h.Guests.getD g.toNat default):=by
 obtain ⟨hk,h0,h1,h2⟩:=there_iff.1 ht
 have:=hk.three
 have hm:=getD_mem (xs:=h.Guests) (k:=g.toNat) (by omega)
 have ho:=List.all_eq_true.1 hk.all _ hm
 unfold M.guestOk at ho
 rw [h2,cond_true] at ho
 simp only [Bool.and_eq_true,decide_eq_true_eq] at ho
 exact ⟨hs.all _ hm,hk,h0,h1,rfl,h2,ho.1.1.1,ho.1.1.2.1,ho.1.1.2.2,ho.1.2,ho.2⟩
theorem td8 (i:Nat):Int.tdiv (i:Int) 8=((i / 8:Nat):Int):=rfl
theorem tm8 (i:Nat):Int.tmod (i:Int) 8=((i % 8:Nat):Int):=rfl
theorem fold_map {α:Type} {f:Nat→α}:∀ (xs:List Nat) (s:List α),xs.foldl (fun s i=>s ++ [f i]) s=s ++ xs.map f
 | [],s=>by simp
 | x::xs,s=>by rw [List.foldl_cons,fold_map xs]; simp
end Go.Proofs.Ytbanbjdcgdmkaaa
namespace Go.Proofs.Ytbanbjdcgdmkaaa
set_option linter.all false
namespace M
end M
end Go.Proofs.Ytbanbjdcgdmkaaa
namespace Go.Proofs.Ytbanbjdcgdmkaaa
set_option linter.all false
namespace M
def entry (ws:List Int) (x:DGuest) (p:Nat):DEntry:=if x.C.Root = -1 then ⟨true,true,true,(p:Int)⟩ else dec (word ws x.Pages (x.C.Root.toNat*8+p))
def shadeFor (x:DGuest) (e:DEntry):DShade:=⟨e.There,e.Write,e.User,e.Page,(x.Pages.getD e.Page.toNat default).Frame,(x.Pages.getD e.Page.toNat default).Write⟩
def shade (ws:List Int) (x:DGuest) (p:Nat):DShade:=shadeFor x (entry ws x p)
def shadow (ws:List Int) (x:DGuest):List DShade:=(List.range 8).map (shade ws x)
noncomputable def shadowOf (h:DHost) (g:Int):List DShade:=bif there h g then shadow h.Words (h.Guests.getD g.toNat default) else []
def pageWords (ws:List Int) (s:DSlot):List Int:=bif decide (s.Frame = -1) then List.replicate 8 0 else page ws s.Frame.toNat
end M
theorem shadow_len {ws:List Int} {x:DGuest}:(M.shadow ws x).length=8:=by simp [M.shadow]
theorem shadow_get {ws:List Int} {x:DGuest} {p:Nat} (hp:p<8):(M.shadow ws x).getD p default=M.shade ws x p:=by
 rw [getD_lt (by rw [shadow_len]; exact hp)]; simp [M.shadow]
theorem core_root {c:DCore} (h:M.coreOk c=true):-1≤c.Root∧c.Root≤7:=by
 unfold M.coreOk at h
 simp only [Bool.and_eq_true] at h
 exact M.inR_iff.1 h.1.1.2
section
variable {h : DHost} {g : Int} {x : DGuest}
theorem live_slot (l:Live h g x) {p:Nat} (hp:p<8):-1≤(x.Pages.getD p default).Frame∧(x.Pages.getD p default).Frame<20:=slot_getD l.slots (by rw [l.pages]; exact hp)
theorem word_in (l:Live h g x) {a:Nat} (ha:a<64):0≤M.word h.Words x.Pages a∧M.word h.Words x.Pages a≤4095:=by
 have:=live_slot l (p:=a / 8) (by omega)
 have:=l.ok.len
 unfold M.word
 split
 · omega
 · exact wordsOk_get l.ok.words (by omega)
theorem slotWords_i {ws:List Int} {s:DSlot} (hw:ws.length=160) (hs:-1≤s.Frame∧s.Frame<20):F_impl_slotWords ws s=some (M.pageWords ws s):=by
 unfold F_impl_slotWords M.pageWords
 by_cases e:s.Frame = -1
 · rw [decide_eq_true e]; rfl
 · rw [decide_eq_false e,cond_false,cond_false,pageOf_i (by omega) (by omega) (by omega)]; rfl
theorem pageWords_len {ws:List Int} {s:DSlot} (hw:ws.length=160) (hs:-1≤s.Frame∧s.Frame<20):(M.pageWords ws s).length=8:=by
 unfold M.pageWords
 by_cases e:s.Frame = -1
 · rw [decide_eq_true e,cond_true,List.length_replicate]
 · rw [decide_eq_false e,cond_false]; exact page_len (by omega)
theorem pageWords_get {ws:List Int} {s:DSlot} (hs:-1≤s.Frame∧s.Frame<20) {a:Nat} (ha:a<8):(M.pageWords ws s).getD a default=if s.Frame<0 then 0 else ws.getD (s.Frame.toNat*8+a) default:=by
 unfold M.pageWords
 by_cases e:s.Frame = -1
 · rw [decide_eq_true e,cond_true,if_pos (by omega),getD_lt (by rw [List.length_replicate]; exact ha),List.getElem_replicate]
 · rw [decide_eq_false e,cond_false,if_neg (by omega)]; exact page_get ha
theorem word_at {ws:List Int} {ps:List DSlot} {r p:Nat} (hp:p<8):M.word ws ps (r*8+p)=if (ps.getD r default).Frame<0 then 0 else ws.getD ((ps.getD r default).Frame.toNat*8+p) default:=by
 unfold M.word
 rw [show (r*8+p) / 8=r by omega,show (r*8+p) % 8=p by omega]
theorem entry_page (l:Live h g x) {p:Nat} (hp:p<8):0≤(M.entry h.Words x p).Page∧(M.entry h.Words x p).Page≤7:=by
 unfold M.entry
 split
 · simp only; omega
 · exact dec_page _
theorem entryOf_i (l:Live h g x) {p:Nat} (hp:p<8):F_impl_entryOf h g (p:Int)=some (M.entry h.Words x p):=by
 have:=l.ok.three; have:=l.lo; have:=l.hi; have hpl:=l.pages
 have hr:=core_root l.core
 unfold F_impl_entryOf M.entry
 rw [grd_t ⟨l.lo,by omega⟩,l.at_]
 by_cases e:x.C.Root = -1
 · rw [decide_eq_true e,if_pos e]; rfl
 · have hsl:=live_slot l (p:=x.C.Root.toNat) (by omega)
   rw [decide_eq_false e,if_neg e,cond_false,grd_t ⟨by omega,by omega⟩]
   show Option.bind (F_impl_slotWords h.Words (x.Pages.getD x.C.Root.toNat default)) _=_
   rw [slotWords_i l.ok.len hsl,Option.bind_some,grd_t ⟨by omega,by rw [pageWords_len l.ok.len hsl]; omega⟩,Int.toNat_natCast,pageWords_get hsl hp]
   have hw:=word_in l (a:=x.C.Root.toNat*8+p) (by omega)
   rw [word_at hp] at hw ⊢
   rw [entryFrom_i hw.1 hw.2]; rfl
theorem shadeOf_i (l:Live h g x) {p:Nat} (hp:p<8):F_impl_shadeOf h g (p:Int)=some (M.shade h.Words x p):=by
 have:=l.ok.three; have:=l.lo; have:=l.hi; have hpl:=l.pages
 have he:=entry_page l hp
 unfold F_impl_shadeOf
 rw [entryOf_i l hp,Option.bind_some,grd_t ⟨l.lo,by omega⟩,l.at_,grd_t ⟨by omega,by omega⟩]; rfl
end
section
variable {h : DHost} {g : Int} {x : DGuest}
theorem l5Word_s (l:Live h g x) {a:Nat} (ha:a<64):F_spec_l5Word h g (a:Int)=some (M.word h.Words x.Pages a):=by
 have:=l.ok.three; have:=l.lo; have:=l.hi; have hpl:=l.pages; have hlw:=l.ok.len
 have hr:=live_slot l (p:=a / 8) (by omega)
 unfold F_spec_l5Word M.word
 rw [grd_t ⟨l.lo,by omega⟩,l.at_,td8,tm8,w64_in (z:=((a / 8:Nat):Int)) (by omega) (by omega),Int.toNat_natCast,grd_t ⟨by omega,by omega⟩]
 by_cases e:(x.Pages.getD (a / 8) default).Frame<0
 · rw [decide_eq_true e,if_pos e]; rfl
 · rw [decide_eq_false e,if_neg e,cond_false,w64_in (z:=(x.Pages.getD (a / 8) default).Frame*8) (by omega) (by omega),w64_in (z:=(x.Pages.getD (a / 8) default).Frame*8+((a % 8:Nat):Int)) (by omega) (by omega),grd_t ⟨by omega,by omega⟩]
   rw [show Int.toNat ((x.Pages.getD (a / 8) default).Frame*8+((a % 8:Nat):Int))=(x.Pages.getD (a / 8) default).Frame.toNat*8+a % 8 by omega]
end
theorem shadowOf_s {h:DHost} {g:Int} (hs:SmallH h):F_spec_ShadowOf h g=some (M.shadowOf h g):=by
 unfold F_spec_ShadowOf M.shadowOf
 rw [live_s hs,Option.bind_some]
 cases ht:M.there h g with
 | false=>rfl
 | true =>
  have l:=there_live hs ht
  generalize hx:h.Guests.getD g.toNat default=x at l
  have:=l.ok.three; have:=l.lo; have:=l.hi; have hpl:=l.pages
  have hr:=core_root l.core
  rw [Bool.not_true,cond_false]
  have key:=(count_loop (n:=8) (step:=F_spec_ShadowOf_l3 h g) (fun s j=>(s,j)) (fun s i=>s ++ [M.shade h.Words x i]) (fun s=>JO.go s) (fun k s=>s.length=k) (fun i s hi hs=>by
   refine ⟨?_,by simp; omega⟩
   have he:=entry_page l hi
   have run:JO.run (.go ((M.entry h.Words x i).There,(M.entry h.Words x i).Write,(M.entry h.Words x i).User,(M.entry h.Words x i).Page)) (F_spec_ShadowOf_j4 h g (s,(i:Int)))=some (LO.next (s ++ [M.shade h.Words x i],(i:Int)+1)):=by
    simp only [JO.run,F_spec_ShadowOf_j4]
    rw [grd_t ⟨l.lo,by omega⟩,l.at_,grd_t ⟨by omega,by omega⟩,grd_t ⟨by simp; omega,by simp; omega⟩,w64_in (by omega) (by omega)]; rfl
   simp only [F_spec_ShadowOf_l3]
   rw [decide_eq_true (p:=(i:Int)<8) (by omega),cond_true,grd_t ⟨l.lo,by omega⟩,l.at_]
   by_cases e:x.C.Root = -1
   · rw [decide_eq_false (by omega),cond_false,Option.bind_some]
     have ee:M.entry h.Words x i=⟨true,true,true,(i:Int)⟩:=by unfold M.entry; rw [if_pos e]
     rw [ee] at run; exact run
   · have ee:M.entry h.Words x i=dec (M.word h.Words x.Pages (x.C.Root.toNat*8+i)):=by unfold M.entry; rw [if_neg e]
     have hw:=word_in l (a:=x.C.Root.toNat*8+i) (by omega)
     rw [decide_eq_true (by omega),cond_true,w64_in (z:=x.C.Root*8) (by omega) (by omega),w64_in (z:=x.C.Root*8+(i:Int)) (by omega) (by omega),show x.C.Root*8+(i:Int)=((x.C.Root.toNat*8+i:Nat):Int) by omega,l5Word_s l (by omega),Option.bind_some,entryFrom_s hw.1 hw.2]
     rw [ee] at run; exact run) (fun s _=>by
   simp only [F_spec_ShadowOf_l3]; rfl) [] rfl).1
  rw [key,fold_map]; rfl
end Go.Proofs.Ytbanbjdcgdmkaaa
namespace Go.Proofs.Ytbanbjdcgdmkaaa
set_option linter.all false
namespace M
def freeStep (ss:List DSlot) (s:List Int) (i:Nat):List Int:=bif decide (many ss (i:Int)=0) then s ++ [(i:Int)] else s
def free (ss:List DSlot):List Int:=(List.range 20).foldl (freeStep ss) []
end M
end Go.Proofs.Ytbanbjdcgdmkaaa
namespace Go.Proofs.Ytbanbjdcgdmkaaa
set_option linter.all false
namespace M
def zeroH:DHost:=⟨[],[]⟩
def inFrame (h:DHost) (g page frame:Int):DHost :=
 ⟨over h.Words (frame.toNat*8) 8 (pageWords h.Words ((h.Guests.getD g.toNat default).Pages.getD page.toNat default)),
  h.Guests.set g.toNat ⟨(h.Guests.getD g.toNat default).Live,(h.Guests.getD g.toNat default).C,(h.Guests.getD g.toNat default).Pages.set page.toNat ⟨frame,true,((h.Guests.getD g.toNat default).Pages.getD page.toNat default).Dirty⟩,(h.Guests.getD g.toNat default).In,(h.Guests.getD g.toNat default).Out⟩⟩
def inFree (h:DHost) (g page:Int):DHost × Bool:=bif decide ((free (slots h.Guests)).length=0) then (zeroH,false) else (inFrame h g page ((free (slots h.Guests)).getD 0 default),true)
noncomputable def hostFill (h:DHost) (g page:Int):DHost × Bool:=bif there h g && inR 0 7 page then
 (bif decide (((h.Guests.getD g.toNat default).Pages.getD page.toNat default).Frame = -1) then inFree h g page else (h,true))
 else (zeroH,false)
noncomputable def hostCopy (h:DHost) (g page:Int):DHost × Bool:=bif there h g && inR 0 7 page then
 (bif decide (((h.Guests.getD g.toNat default).Pages.getD page.toNat default).Frame = -1) then (zeroH,false)
  else bif decide (many (slots h.Guests) ((h.Guests.getD g.toNat default).Pages.getD page.toNat default).Frame=1) then (inFrame h g page ((h.Guests.getD g.toNat default).Pages.getD page.toNat default).Frame,true)
  else inFree h g page)
 else (zeroH,false)
end M
section
variable {h : DHost} {g : Int} {x : DGuest}
end
end Go.Proofs.Ytbanbjdcgdmkaaa
namespace Go.Proofs.Ytbanbjdcgdmkaaa
set_option linter.all false
section
variable {ws : List Int}
end
end Go.Proofs.Ytbanbjdcgdmkaaa
namespace Go.Proofs.Ytbanbjdcgdmkaaa
set_option linter.all false
end Go.Proofs.Ytbanbjdcgdmkaaa
namespace Go.Proofs.Ytbanbjdcgdmkaaa
set_option linter.all false
end Go.Proofs.Ytbanbjdcgdmkaaa
namespace Go.Proofs.Ytbanbjdcgdmkaaa
set_option linter.all false
namespace M
def zeros (xs:List Int):Bool:=(List.range 8).all fun k=>decide (xs.getD k default=0)
def used (mem:List Int):Nat→Nat
 | 0=>0
 | p+1=>used mem p+(bif zeros (page mem p) then 0 else 1)
def slotFor (mem free:List Int) (p:Nat):DSlot:=bif zeros (page mem p) then ⟨-1,false,false⟩ else ⟨free.getD (used mem p) default,true,false⟩
def slotsFor (mem free:List Int) (n:Nat):List DSlot:=(List.range n).map (slotFor mem free)
def wordsFor (mem free:List Int) (ws:List Int):Nat→List Int
 | 0=>ws
 | p+1=>bif zeros (page mem p) then wordsFor mem free ws p else over (wordsFor mem free ws p) ((free.getD (used mem p) default).toNat*8) 8 (page mem p)
noncomputable def gone (gs:List DGuest):Int:=bif (gs.getD 0 default).Live then (bif (gs.getD 1 default).Live then (bif (gs.getD 2 default).Live then -1 else 2) else 1) else 0
noncomputable def booted (h:DHost) (b:DBare):DHost:=⟨wordsFor b.Mem (free (slots h.Guests)) h.Words 8,h.Guests.set (gone h.Guests).toNat ⟨true,b.C,slotsFor b.Mem (free (slots h.Guests)) 8,b.In,b.Out⟩⟩
end M
end Go.Proofs.Ytbanbjdcgdmkaaa
namespace Go.Proofs.Ytbanbjdcgdmkaaa
set_option linter.all false
end Go.Proofs.Ytbanbjdcgdmkaaa
namespace Go.Proofs.Ytbanbjdcgdmkaaa
set_option linter.all false
end Go.Proofs.Ytbanbjdcgdmkaaa
namespace Go.Proofs.Ytbanbjdcgdmkaaa
set_option linter.all false
end Go.Proofs.Ytbanbjdcgdmkaaa
namespace Go.Proofs.Ytbanbjdcgdmkaaa
set_option linter.all false
end Go.Proofs.Ytbanbjdcgdmkaaa
namespace Go.Proofs.Ytbanbjdcgdmkaaa
set_option linter.all false
def M.fr (mem:List Int) (ss:List DSlot) (p:Nat):Int:=(M.free ss).getD (M.used mem p) default
section
variable {mem ws : List Int} {ss : List DSlot} (hu : M.used mem 8 ≤ (M.free ss).length)
include hu
end
end Go.Proofs.Ytbanbjdcgdmkaaa
namespace Go.Proofs.Ytbanbjdcgdmkaaa
set_option linter.all false
section
variable {h : DHost} {g : Int} {x : DGuest}
end
end Go.Proofs.Ytbanbjdcgdmkaaa
namespace Go.Proofs.Ytbanbjdcgdmkaaa
set_option linter.all false
namespace M
def sLets (s:DShade) (user write:Bool):Bool:=s.There && (s.Write || !write) && (s.User || !user)
def place (s:DShade) (addr:Int) (user write:Bool):Int × Int:=bif !sLets s user write then (-1,1) else bif decide (s.Frame = -1) then (-1,2) else bif write && !s.Ready then (-1,3) else (s.Frame*8+addr % 8,0)
end M
theorem at8 {a f:Int} (h0:0≤a) (h1:a≤63) (f0:0≤f) (f1:f<20):w64 (w64 (f*8)+Int.tmod a 8)=f*8+a % 8:=by
 rw [Int.tmod_eq_emod_of_nonneg h0,w64_in (z:=f*8) (by omega) (by omega),w64_in (by omega) (by omega)]
theorem shadeLeads_i {s:DShade} {a:Int} {user write:Bool} (h0:0≤a) (h1:a≤63) (f0:-1≤s.Frame) (f1:s.Frame<20):F_impl_shadeLeads s a user write=some (M.place s a user write):=by
 obtain ⟨t,w,u,p,f,r⟩:=s
 simp only at f0 f1
 unfold F_impl_shadeLeads F_impl_entryLets M.place M.sLets
 by_cases e:f = -1
 · simp only [decide_eq_true e]
   cases t <;> cases w <;> cases u <;> cases user <;> cases write <;> rfl
 · simp only [decide_eq_false e,F_impl_shadeLeads_j2,at8 h0 h1 (by omega) f1]
   cases t <;> cases w <;> cases u <;> cases user <;> cases write <;> cases r <;> simp only [Bool.not_true,Bool.not_false,cond_true,cond_false,Option.bind_some,JO.run,Bool.and_true,Bool.and_false,Bool.true_and,Bool.false_and,Bool.or_true,Bool.or_false,F_impl_shadeLeads_j2,at8 h0 h1 (show 0≤f by omega) f1]
theorem l5Place_s {xs:List DShade} {s:DShade} {a:Int} {user write:Bool} (h0:0≤a) (h1:a≤63) (hl:xs.length=8) (hg:xs.getD (a / 8).toNat default=s) (f0:-1≤s.Frame) (f1:s.Frame<20):F_spec_l5Place xs a user write=some (M.place s a user write):=by
 unfold F_spec_l5Place M.place M.sLets
 have e8:w64 (Int.tdiv a 8)=a / 8:=by rw [Int.tdiv_eq_ediv_of_nonneg h0,w64_in (by omega) (by omega)]
 rw [e8,grd_t ⟨by omega,by omega⟩,hg]
 obtain ⟨t,w,u,p,f,r⟩:=s
 simp only at f0 f1
 by_cases e:f = -1
 · simp only [decide_eq_true e,decide_eq_true (p:=f<0) (by omega)]
   cases t <;> cases w <;> cases u <;> cases user <;> cases write <;> rfl
 · simp only [decide_eq_false e,decide_eq_false (p:=f<0) (by omega)]
   cases t <;> cases w <;> cases u <;> cases user <;> cases write <;> cases r <;> simp only [Bool.not_true,Bool.not_false,cond_true,cond_false,Option.bind_some,JO.run,Bool.and_true,Bool.and_false,Bool.true_and,Bool.false_and,Bool.or_true,Bool.or_false,F_spec_l5Place_j1,e8,hg,at8 h0 h1 (show 0≤f by omega) f1]
theorem shade_frame {h:DHost} {g:Int} {x:DGuest} (l:Live h g x) {p:Nat} (hp:p<8):-1≤(M.shade h.Words x p).Frame∧(M.shade h.Words x p).Frame<20:=by
 have he:=entry_page l hp
 exact live_slot l (p:=(M.entry h.Words x p).Page.toNat) (by omega)
end Go.Proofs.Ytbanbjdcgdmkaaa
namespace Go.Proofs.Ytbanbjdcgdmkaaa
set_option linter.all false
def enc (e:DEntry):Int:=8*e.Page+(bif e.There then 1 else 0)+(bif e.Write then 2 else 0)+(bif e.User then 4 else 0)
end Go.Proofs.Ytbanbjdcgdmkaaa
namespace Go.Proofs.Ytbanbjdcgdmkaaa
set_option linter.all false
structure Rdr (m : Int) (r : Dl20Rd) : Prop where
 b:∀ x ∈ r.b,0≤x∧x≤255
 p0:0≤r.p
 p1:r.p≤m
theorem Rdr.up {m n:Int} {r:Dl20Rd} (h:Rdr m r) (hn:m≤n):Rdr n r:=⟨h.b,h.p0,Int.le_trans h.p1 hn⟩
end Go.Proofs.Ytbanbjdcgdmkaaa
namespace Go.Proofs.Ytbanbjdcgdmkaaa
set_option linter.all false
end Go.Proofs.Ytbanbjdcgdmkaaa
namespace Go.Proofs.Ytbanbjdcgdmkaaa
set_option linter.all false
end Go.Proofs.Ytbanbjdcgdmkaaa
namespace Go.Proofs.Ytbanbjdcgdmkaaa
set_option linter.all false
structure Tiny (b : DBare) : Prop where
 regs:b.C.Regs.length≤4
 mem:b.Mem.length≤64
 i:b.In.length≤31
 o:b.Out.length≤31
theorem Tiny.small {b:DBare} (h:Tiny b):SmallB b:=⟨⟨by have:=h.regs; omega⟩,by have:=h.mem; omega,by have:=h.i; omega,by have:=h.o; omega⟩
end Go.Proofs.Ytbanbjdcgdmkaaa
namespace Go.Proofs.Ytbanbjdcgdmkaaa
set_option linter.all false
structure LG (g : DGuest) : Prop where
 small:SmallG g
 pages:g.Live=true→g.Pages.length=8
structure LH (gs : List DGuest) : Prop where
 three:gs.length=3
 all:∀ g ∈ gs,LG g
theorem LH.set {gs:List DGuest} {i:Nat} {x:DGuest} (h:LH gs) (hx:LG x):LH (gs.set i x):=by
 refine ⟨by rw [List.length_set]; exact h.three,fun g hg=>?_⟩
 rcases List.mem_or_eq_of_mem_set hg with hg | rfl
 · exact h.all g hg
 · exact hx
theorem LH.get {gs:List DGuest} (h:LH gs) {i:Nat} (hi:i<3):LG (gs.getD i default):=h.all _ (getD_mem (by rw [h.three]; exact hi))
theorem LH.host {gs:List DGuest} {ws:List Int} (h:LH gs) (hw:ws.length=160):SmallH ⟨ws,gs⟩:=⟨by simp only [hw]; omega,by simp only [h.three]; omega,fun g hg=>(h.all g hg).small⟩
end Go.Proofs.Ytbanbjdcgdmkaaa
namespace Go.Proofs.Ytbanbjdcgdmkaaa
set_option linter.all false
structure FG (gs : List DGuest) : Prop where
 three:gs.length=3
 all:∀ g ∈ gs,SmallG g∧g.Pages.length≤8
theorem FG.get {gs:List DGuest} (h:FG gs) {i:Nat} (hi:i<3):SmallG (gs.getD i default)∧(gs.getD i default).Pages.length≤8:=h.all _ (getD_mem (by rw [h.three]; exact hi))
theorem FG.set {gs:List DGuest} {i:Nat} {x:DGuest} (h:FG gs) (hx:SmallG x∧x.Pages.length≤8):FG (gs.set i x):=by
 refine ⟨by rw [List.length_set]; exact h.three,fun g hg=>?_⟩
 rcases List.mem_or_eq_of_mem_set hg with hg | rfl
 · exact h.all g hg
 · exact hx
theorem FG.host {gs:List DGuest} {ws:List Int} (h:FG gs) (hw:ws.length≤1048576):SmallH ⟨ws,gs⟩:=⟨hw,by simp only [h.three]; omega,fun g hg=>(h.all g hg).1⟩
end Go.Proofs.Ytbanbjdcgdmkaaa
namespace Go.Proofs.Ytbanbjdcgdmkaaa
set_option linter.all false
end Go.Proofs.Ytbanbjdcgdmkaaa
namespace Go.Proofs.Ytbanbjdcgdmkaaa
set_option linter.all false
theorem view_ok {h:DHost} {g:Int} {x:DGuest} (l:Live h g x):M.bareOk ⟨x.C,M.mem h.Words x.Pages,x.In,x.Out⟩=true:=by
 have hk:=l.ok
 unfold M.bareOk M.memOk
 simp only [Bool.and_eq_true,decide_eq_true_eq]
 refine ⟨⟨⟨l.core,mem_len,?_⟩,l.inn⟩,l.out⟩
 simp only [M.wordsOk,List.all_eq_true,M.mem,List.mem_map,List.mem_range]
 rintro w ⟨a,ha,rfl⟩
 unfold M.word M.wordOk
 rw [M.inR_iff]
 have hr:=slot_getD l.slots (i:=a / 8) (by rw [l.pages]; omega)
 split
 · omega
 · exact wordsOk_get hk.words (by rw [hk.len]; omega)
end Go.Proofs.Ytbanbjdcgdmkaaa
namespace Go.Proofs.Ytbanbjdcgdmkaaa
set_option linter.all false
namespace M
def vw (ws:List Int) (x:DGuest):DBare:=⟨x.C,mem ws x.Pages,x.In,x.Out⟩
def busy (c:DCore):Bool:=c.Stopped || ((tick c).Waits && (tick c).On)
def wpc (b:DBare):Int:=walk b.Mem b.C.Root b.C.Pc b.C.User false
def reads (b:DBare):Bool:=!busy b.C && !decide (wpc b = -1)
def one (b:Bool):Nat:=bif b then 1 else 0
def e0:DExit:=⟨0,0,⟨0,0,0⟩⟩
def aExit (s:DShade) (why:Int):DExit:=bif decide (why=2) then ⟨2,s.Page,⟨0,0,0⟩⟩ else bif decide (why=3) then ⟨3,s.Page,⟨0,0,0⟩⟩ else e0
def shadeAt (ws:List Int) (x:DGuest) (a:Int):DShade:=shade ws x (a / 8).toNat
def placeAt (ws:List Int) (x:DGuest) (a:Int) (w:Bool):Int × Int:=place (shadeAt ws x a) a x.C.User w
def iExit (ws:List Int) (x:DGuest) (i:DIns):DExit :=
 bif kern i.Op && !x.C.User then ⟨1,0,i⟩
 else bif decide (i.Op=3) || decide (i.Op=4) then aExit (shadeAt ws x (reg x.C (i.N % 4) % 64)) (placeAt ws x (reg x.C (i.N % 4) % 64) (decide (i.Op=4))).2
 else e0
def xExit (ws:List Int) (x:DGuest):DExit :=
 bif busy x.C then e0
 else bif !decide ((placeAt ws x x.C.Pc false).2=0) then aExit (shadeAt ws x x.C.Pc) (placeAt ws x x.C.Pc false).2
 else iExit ws x (ins (ws.getD (placeAt ws x x.C.Pc false).1.toNat default))
noncomputable def guestExit (h:DHost) (g:Int):DExit:=bif there h g then xExit h.Words (h.Guests.getD g.toNat default) else e0
def lacks (e:DExit):Bool:=decide (e.Why=2) || decide (e.Why=3)
noncomputable def answered (h:DHost) (g:Int) (e:DExit):DHost × Bool:=bif decide (e.Why=2) then hostFill h g e.Page else hostCopy h g e.Page
noncomputable def ready (g:Int):Nat→DHost→Option DHost
 | 0,h=>some h
 | n+1,h=>bif lacks (guestExit h g) then (bif (answered h g (guestExit h g)).2 then ready g n (answered h g (guestExit h g)).1 else none) else some h
end M
section
variable (c : DCore)
theorem tick_pc:(M.tick c).Pc=c.Pc:=by unfold M.tick; cases decide (c.Timer=0) <;> rfl
theorem tick_user:(M.tick c).User=c.User:=by unfold M.tick; cases decide (c.Timer=0) <;> rfl
theorem tick_regs:(M.tick c).Regs=c.Regs:=by unfold M.tick; cases decide (c.Timer=0) <;> rfl
end
section
variable {h : DHost} {g : Int} {x : DGuest}
theorem vw_ok (l:Live h g x):BOk (M.vw h.Words x):=bOk_iff.1 (view_ok l)
theorem walk_place (l:Live h g x) {a:Int} {w:Bool} (a0:0≤a) (a1:a≤63) :
 M.walk (M.mem h.Words x.Pages) x.C.Root a x.C.User w=(bif M.sLets (M.shadeAt h.Words x a) x.C.User w then (M.shadeAt h.Words x a).Page*8+a % 8 else -1):=by
 have hb:=vw_ok l
 have hr:=core_root l.core
 unfold M.walk
 rw [show M.memOk (M.mem h.Words x.Pages)=true from hb.mem,M.inR_iff.2 hr,M.inR_iff.2 ⟨a0,a1⟩]
 simp only [Bool.and_self,cond_true]
 by_cases e:x.C.Root = -1
 · rw [decide_eq_true e,cond_true]
   have es:M.shadeAt h.Words x a=M.shadeFor x ⟨true,true,true,(((a / 8).toNat:Nat):Int)⟩:=by unfold M.shadeAt M.shade M.entry; rw [if_pos e]
   rw [es]
   simp only [M.sLets,M.shadeFor,Bool.true_or,Bool.and_self,cond_true]
   omega
 · rw [decide_eq_false e,cond_false]
   have es:M.shadeAt h.Words x a=M.shadeFor x (dec ((M.mem h.Words x.Pages).getD (x.C.Root*8+a / 8).toNat default)):=by
    unfold M.shadeAt M.shade M.entry
    rw [if_neg e,mem_get (by omega),show (x.C.Root*8+a / 8).toNat=x.C.Root.toNat*8+(a / 8).toNat by omega]
   rw [es]; rfl
theorem place_walk (l:Live h g x) {a:Int} {w:Bool} (a0:0≤a) (a1:a≤63) {t:Int} (ht:M.walk (M.mem h.Words x.Pages) x.C.Root a x.C.User w=t) :
 (t = -1∧M.placeAt h.Words x a w=(-1,1)) ∨
 (0≤t∧t<64∧(M.shadeAt h.Words x a).Page=t / 8 ∧
  M.placeAt h.Words x a w=bif decide ((x.Pages.getD (t / 8).toNat default).Frame = -1) then (-1,2) else bif w && !(x.Pages.getD (t / 8).toNat default).Write then (-1,3) else ((x.Pages.getD (t / 8).toNat default).Frame*8+t % 8,0)):=by
 rw [walk_place l a0 a1] at ht
 have hp:=entry_page l (p:=(a / 8).toNat) (by omega)
 have e1:(M.shadeAt h.Words x a).Page=(M.entry h.Words x (a / 8).toNat).Page:=rfl
 unfold M.placeAt M.place
 cases hl:M.sLets (M.shadeAt h.Words x a) x.C.User w with
 | false=>rw [hl,cond_false] at ht; exact .inl ⟨ht.symm,rfl⟩
 | true =>
  rw [hl,cond_true] at ht
  have e2:(M.shadeAt h.Words x a).Page=t / 8:=by omega
  refine .inr ⟨by omega,by omega,e2,?_⟩
  have e3:(M.shadeAt h.Words x a).Frame=(x.Pages.getD (t / 8).toNat default).Frame:=by rw [← e2]; rfl
  have e4:(M.shadeAt h.Words x a).Ready=(x.Pages.getD (t / 8).toNat default).Write:=by rw [← e2]; rfl
  rw [e3,e4,show t % 8=a % 8 by omega]; rfl
end
end Go.Proofs.Ytbanbjdcgdmkaaa
namespace Go.Proofs.Ytbanbjdcgdmkaaa
set_option linter.all false
section
variable {h : DHost} {g : Int} {x : DGuest}
theorem guestShade_i (l:Live h g x) {a:Int} (a0:0≤a) (a1:a≤63):F_impl_guestShade h g a=some (M.shadeAt h.Words x a):=by
 unfold F_impl_guestShade M.shadeAt
 rw [Int.tdiv_eq_ediv_of_nonneg a0,w64_in (by omega) (by omega),show a / 8=(((a / 8).toNat:Nat):Int) by omega,shadeOf_i l (by omega),Int.toNat_natCast]; rfl
theorem guestWalk_i (l:Live h g x) {a:Int} {w:Bool} (a0:0≤a) (a1:a≤63):F_impl_guestWalk h g a w=some (M.placeAt h.Words x a w):=by
 have:=l.ok.three; have:=l.lo; have:=l.hi
 have hf:-1≤(M.shadeAt h.Words x a).Frame∧(M.shadeAt h.Words x a).Frame<20:=shade_frame l (p:=(a / 8).toNat) (by omega)
 unfold F_impl_guestWalk
 rw [guestShade_i l a0 a1,Option.bind_some,grd_t ⟨l.lo,by omega⟩,l.at_,shadeLeads_i a0 a1 hf.1 hf.2]; rfl
theorem addressExit_i (l:Live h g x) {a why:Int} (a0:0≤a) (a1:a≤63):F_impl_addressExit h g a why=some (M.aExit (M.shadeAt h.Words x a) why):=by
 unfold F_impl_addressExit M.aExit
 rw [guestShade_i l a0 a1,Option.bind_some]
 cases decide (why=2) <;> cases decide (why=3) <;> rfl
theorem adr_range {c:DCore} {n:Int}:0≤M.reg c n % 64∧M.reg c n % 64≤63:=by omega
theorem insExit_i (l:Live h g x) {i:DIns} (hi:M.insOk i=true):F_impl_insExit h g i=some (M.iExit h.Words x i):=by
 have:=l.ok.three; have:=l.lo; have:=l.hi
 have hb:=vw_ok l
 have hi2:=hi
 obtain ⟨op,a,n⟩:=i
 simp only [M.insOk,Bool.and_eq_true,M.inR_iff] at hi2
 have had:F_impl_addressOf x.C ⟨op,a,n⟩=some (M.reg x.C (n % 4) % 64):=addressOf_i (b:=M.vw h.Words x) hb.k hi2.2.1
 have rest:F_impl_insExit_j1 h g ⟨op,a,n⟩ ()=some (bif decide (op=3) || decide (op=4) then M.aExit (M.shadeAt h.Words x (M.reg x.C (n % 4) % 64)) (M.placeAt h.Words x (M.reg x.C (n % 4) % 64) (decide (op=4))).2 else M.e0):=by
  have more:F_impl_insExit_j2 h g ⟨op,a,n⟩ ()=some (M.aExit (M.shadeAt h.Words x (M.reg x.C (n % 4) % 64)) (M.placeAt h.Words x (M.reg x.C (n % 4) % 64) (decide (op=4))).2):=by
   unfold F_impl_insExit_j2
   simp only [l.at_]
   show Option.bind (F_impl_addressOf x.C ⟨op,a,n⟩) _=_
   rw [had,Option.bind_some,guestWalk_i l adr_range.1 adr_range.2,Option.bind_some,addressExit_i l adr_range.1 adr_range.2]; rfl
  unfold F_impl_insExit_j1
  by_cases h3:op=3
  · simp only [decide_eq_true h3,Bool.not_true,cond_false,Option.bind_some,JO.run,Bool.true_or,cond_true]; exact more
  · by_cases h4:op=4
    · simp only [decide_eq_false h3,decide_eq_true h4,Bool.not_true,Bool.not_false,cond_true,cond_false,Option.bind_some,JO.run,Bool.or_true]
      rw [decide_eq_true h4] at more; exact more
    · simp only [decide_eq_false h3,decide_eq_false h4,Bool.not_false,cond_true,Option.bind_some,JO.run,Bool.or_false,cond_false]; rfl
 unfold F_impl_insExit M.iExit
 rw [grd_t ⟨l.lo,by omega⟩,insKernel_i hi,Option.bind_some,l.at_]
 cases M.kern op with
 | false=>simp only [cond_false,Option.bind_some,JO.run,Bool.false_and]; exact rest
 | true =>
  cases x.C.User with
  | false=>rfl
  | true=>simp only [Bool.not_true,cond_true,cond_false,Option.bind_some,JO.run,Bool.and_false]; exact rest
theorem place_fine (l:Live h g x) {a:Int} {w:Bool} (a0:0≤a) (a1:a≤63) (h2:(M.placeAt h.Words x a w).2=0):0≤(M.placeAt h.Words x a w).1∧(M.placeAt h.Words x a w).1<160:=by
 rcases place_walk l (w:=w) a0 a1 rfl with ⟨_,hp⟩ | ⟨t0,t1,_,hp⟩
 · rw [hp] at h2; cases h2
 · have hr:=live_slot l (p:=(M.walk (M.mem h.Words x.Pages) x.C.Root a x.C.User w / 8).toNat) (by omega)
   rw [hp] at h2 ⊢
   generalize (x.Pages.getD (M.walk (M.mem h.Words x.Pages) x.C.Root a x.C.User w / 8).toNat default)=s at hr h2 ⊢
   by_cases e:s.Frame = -1
   · rw [decide_eq_true e] at h2; cases h2
   · rw [decide_eq_false e,cond_false] at h2 ⊢
     cases hw:w && !s.Write with
     | true=>rw [hw] at h2; cases h2
     | false=>rw [cond_false]; simp only; omega
theorem core_of (l:Live h g x):M.coreOk x.C=true∧(0≤x.C.Pc∧x.C.Pc≤63)∧(0≤x.C.Timer∧x.C.Timer≤4095):=⟨l.core,(vw_ok l).pc,(vw_ok l).timer⟩
theorem exitOf_i (l:Live h g x):F_impl_exitOf h g=some (M.xExit h.Words x):=by
 have:=l.ok.three; have:=l.lo; have:=l.hi; have hlw:=l.ok.len
 obtain ⟨_,hpc,htm⟩:=core_of l
 unfold F_impl_exitOf M.xExit M.busy
 rw [grd_t ⟨l.lo,by omega⟩,l.at_]
 show cond x.C.Stopped _ (Option.bind (F_impl_ticked x.C) _)=_
 cases x.C.Stopped with
 | true=>rfl
 | false =>
  rw [cond_false]
  rw [ticked_i htm.1 htm.2,Option.bind_some,isInterrupted_i,Option.bind_some]
  cases (M.tick x.C).Waits && (M.tick x.C).On with
  | true=>rfl
  | false =>
   simp only [Bool.or_false,cond_false]
   rw [guestWalk_i l hpc.1 hpc.2,Option.bind_some]
   by_cases h2:(M.placeAt h.Words x x.C.Pc false).2=0
   · have hpl:=place_fine l hpc.1 hpc.2 h2
     have hw:=wordsOk_get l.ok.words (i:=(M.placeAt h.Words x x.C.Pc false).1.toNat) (by omega)
     rw [decide_eq_true h2,Bool.not_true,cond_false,cond_false,grd_t ⟨hpl.1,by omega⟩,insFrom_i hw.1 hw.2,Option.bind_some,insExit_i l (ins_ok hw.1 hw.2)]; rfl
   · rw [decide_eq_false h2,Bool.not_false,cond_true,cond_true,addressExit_i l hpc.1 hpc.2]; rfl
theorem l6Exit_s {xs:List DShade} {s:DShade} {a why:Int} (a0:0≤a) (a1:a≤63) (hl:xs.length=8) (hg:xs.getD (a / 8).toNat default=s):F_spec_l6Exit xs a why=some (M.aExit s why):=by
 unfold F_spec_l6Exit M.aExit
 have e8:w64 (Int.tdiv a 8)=a / 8:=by rw [Int.tdiv_eq_ediv_of_nonneg a0,w64_in (by omega) (by omega)]
 rw [e8,grd_t ⟨by omega,by omega⟩]
 unfold F_spec_l6Exit_j1
 rw [e8,hg]
 cases decide (why=2) <;> cases decide (why=3) <;> rfl
end
theorem guestExit_i {h:DHost} {g:Int} (hs:SmallH h):F_impl_GuestExit h g=some (M.guestExit h g):=by
 unfold F_impl_GuestExit M.guestExit
 rw [hasGuest_i hs,Option.bind_some]
 cases ht:M.there h g with
 | false=>rfl
 | true =>
  have l:=there_live hs ht
  rw [Bool.not_true,cond_false,exitOf_i l]; rfl
theorem guestExit_s {h:DHost} {g:Int} (hs:SmallH h):F_spec_GuestExit h g=some (M.guestExit h g):=by
 unfold F_spec_GuestExit M.guestExit
 rw [live_s hs,Option.bind_some]
 cases ht:M.there h g with
 | false=>rfl
 | true =>
  have l:=there_live hs ht
  have hso:=shadowOf_s (g:=g) hs
  unfold M.shadowOf at hso
  rw [ht,cond_true] at hso
  generalize hx:h.Guests.getD g.toNat default=x at l hso
  have:=l.ok.three; have:=l.lo; have:=l.hi; have hlw:=l.ok.len
  obtain ⟨_,hpc,htm⟩:=core_of l
  have hb:=vw_ok l
  unfold M.xExit M.busy
  rw [Bool.not_true,cond_false,grd_t ⟨l.lo,by omega⟩,cond_true,grd_t ⟨l.lo,by omega⟩]
  show cond x.C.Stopped _ (Option.bind (F_spec_l3Core x.C) _)=_
  cases x.C.Stopped with
  | true=>rfl
  | false =>
   rw [cond_false]
   rw [core_s l.small.c,Option.bind_some,ticked_s htm.1 htm.2,Option.bind_some]
   cases (M.tick x.C).Waits && (M.tick x.C).On with
   | true=>rfl
   | false =>
    simp only [Bool.or_false,cond_false,tick_pc,tick_user,tick_regs]
    have pl:∀ {a:Int} {w:Bool},0≤a→a≤63→F_spec_l5Place (M.shadow h.Words x) a x.C.User w=some (M.placeAt h.Words x a w):=fun {a w} a0 a1=>by
     have hf:=shade_frame l (p:=(a / 8).toNat) (by omega)
     exact l5Place_s a0 a1 shadow_len (shadow_get (by omega)) hf.1 hf.2
    have ex:∀ {a why:Int},0≤a→a≤63→F_spec_l6Exit (M.shadow h.Words x) a why=some (M.aExit (M.shadeAt h.Words x a) why):=fun a0 a1=>l6Exit_s a0 a1 shadow_len (shadow_get (by omega))
    rw [hso,Option.bind_some,pl hpc.1 hpc.2,Option.bind_some]
    by_cases h2:(M.placeAt h.Words x x.C.Pc false).2=0
    · have hpl:=place_fine l hpc.1 hpc.2 h2
      have hw:=wordsOk_get l.ok.words (i:=(M.placeAt h.Words x x.C.Pc false).1.toNat) (by omega)
      have hi:=ins_ok hw.1 hw.2
      rw [decide_eq_true h2,Bool.not_true,cond_false,cond_false,grd_t ⟨hpl.1,by omega⟩,insFrom_s hw.1 hw.2,Option.bind_some,insKernel_s hi,Option.bind_some]
      generalize M.ins (h.Words.getD (M.placeAt h.Words x x.C.Pc false).1.toNat default)=i at hi
      simp only [M.insOk,Bool.and_eq_true,M.inR_iff] at hi
      have t4:Int.tmod i.N 4=i.N % 4:=tmod4 hi.2.1
      have hr:=hb.reg (k:=i.N % 4) (by omega) (by omega)
      have ha:Int.tmod (x.C.Regs.getD (i.N % 4).toNat default) 64=M.reg x.C (i.N % 4) % 64:=Int.tmod_eq_emod_of_nonneg hr.1
      have rg:0≤i.N % 4∧i.N % 4<((x.C.Regs.length:Nat):Int):=hb.k.gA (a:=i.N % 4) (by omega) (by omega)
      have a0:0≤M.reg x.C (i.N % 4) % 64:=by omega
      have a1:M.reg x.C (i.N % 4) % 64≤63:=by omega
      simp only [t4,ha]
      unfold M.iExit
      rw [grd_t rg,pl a0 a1,Option.bind_some,ex a0 a1,Option.bind_some]
      cases M.kern i.Op <;> cases x.C.User <;> cases decide (i.Op=3) <;> cases decide (i.Op=4) <;> rfl
    · rw [decide_eq_false h2,Bool.not_false,cond_true,cond_true,ex hpc.1 hpc.2]; rfl
end Go.Proofs.Ytbanbjdcgdmkaaa
namespace Go.Proofs.Ytbanbjdcgdmkaaa
set_option linter.all false
theorem eqExit_eq (e:DExit):F_laws_eqExit e e=some true:=by
 unfold F_laws_eqExit F_laws_eqIns
 simp only [decide_true]; rfl
theorem exactGuestExit {h:DHost} {g:Int} (hf:FitH h):F_laws_FnExactGuestExit h g=some true:=by
 unfold F_laws_FnExactGuestExit
 obtain ⟨v,hv,hs⟩:=szHost_eq hf (left:=1048576) (by omega) (by omega)
 rw [hv]
 simp only [Option.bind_some]
 rcases hs with h0 | ⟨h0,-,hs⟩
 · rw [lt_t h0]; rfl
 · rw [decide_eq_false (by omega),cond_false]
   simp only [toHost_eq hs,guestExit_i hs,guestExit_s hs,Option.bind_some,eqExit_eq,eqHost_eq hs,decide_true,Bool.not_true,cond_false]
end Go.Proofs.Ytbanbjdcgdmkaaa
