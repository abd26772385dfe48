/- The plain functions: what they answer. -/
import Derived.Test.YtlikfpmbcdlnjaaZY
import Derived.Test.YtlikfpmbcdlnjaaWO1
import Derived.Test.YtlikfpmbcdlnjaaWH1
import Derived.Test.YtlikfpmbcdlnjaaWHO1
import Derived.Test.YtlikfpmbcdlnjaaWHT1
import Derived.Test.YtlikfpmbcdlnjaaWHF1
import Derived.Test.YtlikfpmbcdlnjaaWHC1
import Derived.Test.YtlikfpmbcdlnjaaWHV1
import Derived.Test.YtlikfpmbcdlnjaaWHD1
import Derived.Test.YtlikfpmbcdlnjaaWHB1
import Derived.Test.YtlikfpmbcdlnjaaWHM1
import Derived.Test.YtlikfpmbcdlnjaaWHX1
import Derived.Test.YtlikfpmbcdlnjaaWI1
import Derived.Test.YtlikfpmbcdlnjaaWJ1
import Derived.Test.YtlikfpmbcdlnjaaWK1
import Derived.Test.YtlikfpmbcdlnjaaWD1
import Derived.Laws.Bits64
import Derived.Test.YtlikfpmbcdlnjaaWG1
import Derived.Test.YtlikfpmbcdlnjaaWU1
import Derived.Test.YtlikfpmbcdlnjaaWGH1
import Derived.Test.YtlikfpmbcdlnjaaWFB1
import Derived.Test.YtlikfpmbcdlnjaaWEB1
namespace Go.Proofs.Ytlikfpmbcdlnjaa
set_option linter.all false
theorem getD_lt {α:Type} [Inhabited α] {xs:List α} {i:Nat} (h:i<xs.length):xs.getD i default=xs[i]:=by simp [List.getD,h]
namespace M
def inR (lo hi n:Int):Bool:=decide (lo≤n) && decide (n≤hi)
def wordOk (n:Int):Bool:=inR 0 4095 n
def wordsOk (xs:List Int):Bool:=xs.all wordOk
def memOk (xs:List Int):Bool:=decide (xs.length=64) && wordsOk xs
theorem inR_iff {lo hi n:Int}:inR lo hi n=true↔lo≤n∧n≤hi:=by simp [inR]
end M
theorem cond_b {b:Bool} {x:Option Bool} {y:Bool} (h:x=some y):(cond b x (some false))=some (b && y):=by cases b <;> simp [h]
theorem cond_bs {b y:Bool}:(cond b (some y) (some false))=some (b && y):=by cases b <;> rfl
theorem wordOk_i (n:Int):F_impl_WordOk n=some (M.wordOk n):=by
 unfold F_impl_WordOk; rw [cond_bs]; rfl
theorem l1In_s (n lo hi:Int):F_spec_l1In n lo hi=some (M.inR lo hi n):=by
 unfold F_spec_l1In; rw [cond_bs]; rfl
theorem wordOk_s (n:Int):F_spec_WordOk n=some (M.wordOk n):=by
 unfold F_spec_WordOk; rw [l1In_s]; rfl
theorem lt_le {a b:Int}:decide (a<b+1)=decide (a≤b):=by rw [decide_eq_decide]; omega
theorem all_loop {T:Type} [Inhabited T] {xs:List T} {Pf:T→Option Bool} {p:T→Bool} (hP:∀ x,Pf x=some (p x)) (hl:xs.length≤9223372036854775806) (step:Int→Option (LO Int (JO Unit Bool)))
 (hs:∀ k,step k=cond (decide (k<((List.length xs:Nat):Int))) (grd ((0:Int)≤k∧k<((List.length xs:Nat):Int)) (Option.bind (Pf (List.getD xs (Int.toNat k) default)) fun v=>cond (!v) (some (.ret (.out false))) (some (.next (w64 (k+(1:Int))))))) (some (.ret (.go ())))) :
 iter step 0=some (.ret (bif xs.all p then .go () else .out false)):=by
 have key:∀ k:Int,(0≤k∧k≤(xs.length:Int))→iter step k=some (.ret (bif (xs.drop k.toNat).all p then .go () else .out false)):=by
  refine iter_rec _ (fun k=>xs.length - k.toNat) _ ?_
  rintro k ⟨h0,h1⟩
  by_cases hk:k<xs.length
  · have e1:xs.drop k.toNat=xs.getD k.toNat default::xs.drop (k+1).toNat:=by
     rw [getD_lt (by omega),show (k+1).toNat=k.toNat+1 by omega]; exact List.drop_eq_getElem_cons (by omega)
    have hst:step k=cond (!p (xs.getD k.toNat default)) (some (.ret (.out false))) (some (.next (k+1))):=by
     rw [hs,decide_eq_true hk,cond_true,grd_t ⟨h0,hk⟩,hP,w64_in (by omega) (by omega)]; rfl
    cases hp:p (xs.getD k.toNat default) with
    | true =>
     refine .inl ⟨k+1,by rw [hst,hp]; rfl,⟨by omega,by omega⟩,by omega,?_⟩
     rw [e1,List.all_cons,hp,Bool.true_and]
    | false =>
     refine .inr ⟨fun s'=>by rw [hst,hp]; simp,?_⟩
     rw [hst,hp,e1,List.all_cons,hp]; rfl
  · have hk2:k=xs.length:=by omega
    have hf:decide (k<((List.length xs:Nat):Int))=false:=by simp; omega
    refine .inr ⟨fun s'=>by rw [hs,hf]; simp,?_⟩
    rw [hs,hf,hk2]; simp
 simpa using key 0 ⟨by omega,by omega⟩
theorem wordsOk_i {xs:List Int} (h:xs.length≤9223372036854775806):F_impl_wordsOk xs=some (M.wordsOk xs):=by
 unfold F_impl_wordsOk
 rw [all_loop wordOk_i h (F_impl_wordsOk_l2 xs) (fun k=>rfl)]
 simp only [M.wordsOk]
 cases xs.all M.wordOk <;> rfl
theorem memOk_i {xs:List Int} (h:xs.length≤9223372036854775806):F_impl_MemOk xs=some (M.memOk xs):=by
 unfold F_impl_MemOk
 rw [wordsOk_i h]
 show cond _ (some _) (some false)=_
 rw [cond_bs]
 simp only [M.memOk]
 congr 2
 rw [decide_eq_decide]; omega
theorem memOk_s {xs:List Int} (h:xs.length≤9223372036854775806):F_spec_MemOk xs=some (M.memOk xs):=by
 unfold F_spec_MemOk
 rw [all_loop wordOk_s h (F_spec_MemOk_l2 xs) (fun k=>rfl)]
 simp only [M.memOk,M.wordsOk]
 cases xs.all M.wordOk
 · simp [LO.val,JO.run]
 · simp only [LO.val,JO.run,Option.bind_some,F_spec_MemOk_j1,cond_true,Bool.and_true]
   congr 1; rw [decide_eq_decide]; omega
theorem memOk_len {xs:List Int} (h:M.memOk xs=true):xs.length=64:=by
 simp only [M.memOk,Bool.and_eq_true,decide_eq_true_eq] at h; exact h.1
end Go.Proofs.Ytlikfpmbcdlnjaa
namespace Go.Proofs.Ytlikfpmbcdlnjaa
set_option linter.all false
theorem toIntS_eq {xs:List Int} (h:xs.length≤1048576):F_laws_toIntS xs=some xs:=by
 have key:∀ s:List Int × Int,(0≤s.2∧s.2≤(xs.length:Int)∧s.1.length=xs.length∧∀ i,i<s.2.toNat→s.1[i]?=xs[i]?)→iter (F_laws_toIntS_l2 xs) s=some (.ret (.go xs)):=by
  refine iter_rec _ (fun s=>xs.length - s.2.toNat) _ ?_
  rintro ⟨ys,k⟩ ⟨h0,h1,h2,h3⟩
  simp only at h0 h1 h2 h3
  by_cases hk:k<xs.length
  · refine .inl ⟨(ys.set k.toNat (xs.getD k.toNat default),k+1),?_,⟨by simp only; omega,by simp only; omega,by simpa using h2,?_⟩,by simp only; omega,rfl⟩
    · simp only [F_laws_toIntS_l2,decide_eq_true hk,cond_true,grd,h2]
      rw [if_pos ⟨h0,hk⟩,if_pos ⟨h0,hk⟩,w64_in (by omega) (by omega)]
    · intro j hj
      simp only at hj ⊢
      rw [List.getElem?_set]
      by_cases e:k.toNat=j
      · subst e; rw [if_pos rfl,if_pos (by omega),getD_lt (by omega),List.getElem?_eq_getElem (by omega)]
      · rw [if_neg e]; exact h3 j (by omega)
  · have hy:ys=xs:=by
     apply List.ext_getElem?
     intro j
     by_cases hj:j<xs.length
     · exact h3 j (by omega)
     · rw [List.getElem?_eq_none (by omega),List.getElem?_eq_none (by omega)]
    have hf:decide (k<(xs.length:Int))=false:=by simp; omega
    refine .inr ⟨?_,?_⟩
    · intro s'; simp only [F_laws_toIntS_l2,hf,cond_false]; simp
    · simp only [F_laws_toIntS_l2,hf,cond_false,hy]
 unfold F_laws_toIntS
 rw [grd_t ⟨by omega,by omega,by omega⟩,key _ ⟨by simp,by simp,by simp,by simp⟩]
 rfl
theorem eqIntS_eq {xs ys:List Int} (h:xs.length≤9223372036854775807):F_laws_eqIntS xs ys=some (decide (xs=ys)):=by
 unfold F_laws_eqIntS
 by_cases hl:xs.length=ys.length
 · have key:∀ k:Int,(0≤k∧k≤(xs.length:Int))→iter (F_laws_eqIntS_l2 xs ys) k=some (.ret (bif decide (xs.drop k.toNat=ys.drop k.toNat) then .go () else .out false)):=by
    refine iter_rec _ (fun k=>xs.length - k.toNat) _ ?_
    rintro k ⟨h0,h1⟩
    by_cases hk:k<xs.length
    · have e1:xs.drop k.toNat=xs.getD k.toNat default::xs.drop (k+1).toNat:=by
       rw [getD_lt (by omega),show (k+1).toNat=k.toNat+1 by omega]; exact List.drop_eq_getElem_cons (by omega)
      have e2:ys.drop k.toNat=ys.getD k.toNat default::ys.drop (k+1).toNat:=by
       rw [getD_lt (by omega),show (k+1).toNat=k.toNat+1 by omega]; exact List.drop_eq_getElem_cons (by omega)
      by_cases he:xs.getD k.toNat default=ys.getD k.toNat default
      · refine .inl ⟨k+1,?_,⟨by omega,by omega⟩,by omega,?_⟩
        · simp only [F_laws_eqIntS_l2,decide_eq_true hk,cond_true,grd]
          rw [if_pos ⟨h0,hk⟩,if_pos ⟨h0,by omega⟩,he,w64_in (by omega) (by omega)]
          simp
        · rw [e1,e2,he]; simp
      · have hf:(!decide (xs.getD k.toNat default=ys.getD k.toNat default))=true:=by rw [decide_eq_false he]; rfl
        refine .inr ⟨?_,?_⟩
        · intro s'
          simp only [F_laws_eqIntS_l2,decide_eq_true hk,cond_true,grd]
          rw [if_pos ⟨h0,hk⟩,if_pos ⟨h0,by omega⟩,hf]
          simp
        · simp only [F_laws_eqIntS_l2,decide_eq_true hk,cond_true,grd]
          rw [if_pos ⟨h0,hk⟩,if_pos ⟨h0,by omega⟩,hf,e1,e2]
          have:decide (xs.getD k.toNat default::xs.drop (k+1).toNat=ys.getD k.toNat default::ys.drop (k+1).toNat)=false:=decide_eq_false fun e=>he (List.cons.inj e).1
          rw [this]; rfl
    · have hk2:k=xs.length:=by omega
      subst hk2
      refine .inr ⟨?_,?_⟩
      · intro s'; simp [F_laws_eqIntS_l2]
      · simp [F_laws_eqIntS_l2,hl]
   rw [key 0 ⟨by omega,by omega⟩]
   have:decide ((xs.length:Int)=(ys.length:Int))=true:=by simp [hl]
   rw [this]
   by_cases e:xs=ys
   · subst e; simp [LO.val,JO.run,F_laws_eqIntS_j1]
   · simp [e,LO.val,JO.run]
 · have:decide ((xs.length:Int)=(ys.length:Int))=false:=by simp; omega
   rw [this]
   have e:xs≠ys:=fun e=>hl (by rw [e])
   simp [e]
end Go.Proofs.Ytlikfpmbcdlnjaa
namespace Go.Proofs.Ytlikfpmbcdlnjaa
set_option linter.all false
def upFrom (k:Int) (n:Nat):List Int:=(List.range n).map fun (i:Nat)=>k+(i:Int)
theorem upFrom_len {k:Int} {n:Nat}:(upFrom k n).length=n:=by simp [upFrom]
theorem markIntS_eq {xs:List Int} {k:Int} (h:xs.length≤9007199254740992) (h0:0≤k) (h1:k≤9007199254740992):F_laws_markIntS xs k=some (upFrom k xs.length,k+xs.length):=by
 have key:∀ s:List Int × Int × Int,(0≤s.2.2∧s.2.2≤(xs.length:Int)∧s.2.1=k+s.2.2∧s.1.length=xs.length∧∀ i,i<s.2.2.toNat→s.1[i]?=some (k+i))→iter F_laws_markIntS_l2 s=some (.ret (.go (k+xs.length,upFrom k xs.length))):=by
  refine iter_rec _ (fun s=>xs.length - s.2.2.toNat) _ ?_
  rintro ⟨ys,q,i⟩ ⟨a0,a1,a2,a3,a4⟩
  simp only at a0 a1 a2 a3 a4
  by_cases hi:i<xs.length
  · refine .inl ⟨(ys.set i.toNat q,q+1,i+1),?_,⟨by simp only; omega,by simp only; omega,by simp only; omega,by simpa using a3,?_⟩,by simp only; omega,rfl⟩
    · simp only [F_laws_markIntS_l2,a3,decide_eq_true hi,cond_true,grd]
      rw [if_pos ⟨a0,hi⟩,w64_in (by omega) (by omega),w64_in (by omega) (by omega)]
    · intro j hj
      simp only at hj ⊢
      rw [List.getElem?_set]
      by_cases e:i.toNat=j
      · subst e; rw [if_pos rfl,if_pos (by omega)]; congr 1; omega
      · rw [if_neg e]; exact a4 j (by omega)
  · have hi2:i=xs.length:=by omega
    have hy:ys=upFrom k xs.length:=by
     apply List.ext_getElem?
     intro j
     by_cases hj:j<xs.length
     · rw [a4 j (by omega)]; simp [upFrom,hj]
     · rw [List.getElem?_eq_none (by omega),List.getElem?_eq_none (by rw [upFrom_len]; omega)]
    have hf:decide (i<(ys.length:Int))=false:=by simp; omega
    refine .inr ⟨?_,?_⟩
    · intro s'; simp only [F_laws_markIntS_l2,hf,cond_false]; simp
    · simp only [F_laws_markIntS_l2,hf,cond_false,a2,hi2,hy]
      rw [← hy,a3]; simp
 unfold F_laws_markIntS
 rw [key _ ⟨by simp,by simp,by simp,rfl,by simp⟩]
 rfl
theorem heldIntS_eq {n:Nat} {k:Int} (h:n≤9007199254740992) (h0:0≤k) (h1:k≤9007199254740992):F_laws_heldIntS (upFrom k n) k=some (k+n):=by
 have key:∀ s:Int × Int,(0≤s.2∧s.2≤(n:Int)∧s.1=k+s.2)→iter (F_laws_heldIntS_l2 (upFrom k n)) s=some (.ret (.go (k+n))):=by
  refine iter_rec _ (fun s=>n - s.2.toNat) _ ?_
  rintro ⟨q,i⟩ ⟨a0,a1,a2⟩
  simp only at a0 a1 a2
  by_cases hi:i<n
  · refine .inl ⟨(q+1,i+1),?_,⟨by simp only; omega,by simp only; omega,by simp only; omega⟩,by simp only; omega,rfl⟩
    have hl:i<((upFrom k n).length:Int):=by rw [upFrom_len]; exact hi
    have hg:(upFrom k n).getD i.toNat default=q:=by
     rw [getD_lt (by rw [upFrom_len]; omega)]; simp only [upFrom,List.getElem_map,List.getElem_range]; omega
    simp only [F_laws_heldIntS_l2,decide_eq_true hl,cond_true,grd]
    rw [if_pos ⟨a0,hl⟩,hg,w64_in (by omega) (by omega),w64_in (by omega) (by omega)]
    simp
  · have hf:decide (i<((upFrom k n).length:Int))=false:=by simp [upFrom_len]; omega
    refine .inr ⟨?_,?_⟩
    · intro s'; simp only [F_laws_heldIntS_l2,hf,cond_false]; simp
    · simp only [F_laws_heldIntS_l2,hf,cond_false,a2]
      rw [show i=n by omega]
 unfold F_laws_heldIntS
 rw [key _ ⟨by simp,by simp,by simp⟩]
 rfl
theorem szIntS_eq {xs:List Int} {left:Int} (h:xs.length≤9223372036854775807) (h0:0≤left) (h1:left≤1048576):F_laws_szIntS xs left=some (if (xs.length:Int)≤left then left - xs.length else -1):=by
 unfold F_laws_szIntS
 rw [w64_in (by omega) (by omega)]
 by_cases hl:(xs.length:Int)≤left
 · have:decide (left - (xs.length:Int)<0)=false:=by simp; omega
   rw [this,if_pos hl]; rfl
 · have:decide (left - (xs.length:Int)<0)=true:=by simp; omega
   rw [this,if_neg hl]; rfl
end Go.Proofs.Ytlikfpmbcdlnjaa
namespace Go.Proofs.Ytlikfpmbcdlnjaa
set_option linter.all false
theorem addressOk_i (n:Int):F_impl_addressOk n=some (M.inR 0 63 n):=by
 unfold F_impl_addressOk; rw [cond_bs,show (64:Int)=63+1 from rfl,lt_le]; rfl
theorem pageOk_i (n:Int):F_impl_pageOk n=some (M.inR 0 7 n):=by
 unfold F_impl_pageOk; rw [cond_bs,show (8:Int)=7+1 from rfl,lt_le]; rfl
theorem rootOk_i (n:Int):F_impl_rootOk n=some (M.inR (-1) 7 n):=by
 unfold F_impl_rootOk
 rw [pageOk_i]
 by_cases h:n = -1
 · subst h; rfl
 · rw [decide_eq_false h]
   show some (M.inR 0 7 n)=_
   congr 1
   simp only [M.inR]
   congr 1
   rw [decide_eq_decide]; omega
end Go.Proofs.Ytlikfpmbcdlnjaa
namespace Go.Proofs.Ytlikfpmbcdlnjaa
set_option linter.all false
noncomputable instance:DecidableEq DCore:=fun a b=>Classical.propDecidable (a=b)
noncomputable instance:DecidableEq DBare:=fun a b=>Classical.propDecidable (a=b)
namespace M
def coreOk (c:DCore):Bool:=decide (c.Regs.length=4) && wordsOk c.Regs && (inR 0 63 c.Pc && inR 0 63 c.Vector && inR 0 63 c.Saved && inR 0 63 c.Bad) && inR (-1) 7 c.Root && inR 0 4 c.Cause && wordOk c.Timer
def rowOk (xs:List Int):Bool:=decide (xs.length≤30) && wordsOk xs
def bareOk (b:DBare):Bool:=coreOk b.C && memOk b.Mem && rowOk b.In && rowOk b.Out
end M
theorem rowOk_i {xs:List Int} (h:xs.length≤9223372036854775806):F_impl_rowOk xs=some (M.rowOk xs):=by
 unfold F_impl_rowOk
 rw [wordsOk_i h]
 show cond _ (some _) (some false)=_
 rw [cond_bs]
 simp only [M.rowOk]
 congr 2
 rw [decide_eq_decide]; omega
theorem words_s {xs:List Int} (h:xs.length≤9223372036854775806):F_spec_l3Words xs 30=some (M.rowOk xs):=by
 unfold F_spec_l3Words
 rw [all_loop wordOk_s h (F_spec_l3Words_l2 xs) (fun k=>rfl)]
 simp only [M.rowOk,M.wordsOk]
 cases xs.all M.wordOk
 · simp [LO.val,JO.run]
 · simp only [LO.val,JO.run,Option.bind_some,F_spec_l3Words_j1,cond_true,Bool.and_true]
   congr 1; rw [decide_eq_decide]; omega
theorem coreOk_i {c:DCore} (h:c.Regs.length≤9223372036854775806):F_impl_CoreOk c=some (M.coreOk c):=by
 unfold F_impl_CoreOk
 simp only [wordsOk_i h,addressOk_i,rootOk_i,wordOk_i,Option.bind_some]
 have e4:decide (((c.Regs.length:Nat):Int)=4)=decide (c.Regs.length=4):=by rw [decide_eq_decide]; omega
 rw [e4]
 simp only [M.coreOk,M.inR]
 generalize decide (c.Regs.length=4)=b0
 generalize M.wordsOk c.Regs=b1
 generalize (decide (0≤c.Pc) && decide (c.Pc≤63))=b2
 generalize (decide (0≤c.Vector) && decide (c.Vector≤63))=b3
 generalize (decide (0≤c.Saved) && decide (c.Saved≤63))=b4
 generalize (decide (0≤c.Bad) && decide (c.Bad≤63))=b5
 generalize (decide (-1≤c.Root) && decide (c.Root≤7))=b6
 generalize decide (0≤c.Cause)=b7
 generalize decide (c.Cause≤4)=b8
 generalize M.wordOk c.Timer=b9
 cases b0 <;> cases b2 <;> cases b3 <;> cases b4 <;> cases b7 <;> cases b1 <;> cases b5 <;> cases b6 <;> cases b8 <;> rfl
theorem coreOk_s {c:DCore} (h:c.Regs.length≤9223372036854775806):F_spec_CoreOk c=some (M.coreOk c):=by
 unfold F_spec_CoreOk
 rw [all_loop wordOk_s h (F_spec_CoreOk_l9 c) (fun k=>rfl)]
 simp only [M.coreOk,M.wordsOk]
 cases c.Regs.all M.wordOk
 · simp [LO.val,JO.run]
 · simp only [LO.val,JO.run,Option.bind_some,F_spec_CoreOk_j1,cond_true,Bool.and_true,l1In_s,wordOk_s]
   have e4:decide (((c.Regs.length:Nat):Int)=4)=decide (c.Regs.length=4):=by rw [decide_eq_decide]; omega
   rw [e4]
   generalize decide (c.Regs.length=4)=b0
   generalize M.inR 0 63 c.Pc=b2
   generalize M.inR 0 63 c.Vector=b3
   generalize M.inR 0 63 c.Saved=b4
   generalize M.inR 0 63 c.Bad=b5
   generalize M.inR (-1) 7 c.Root=b6
   generalize M.inR 0 4 c.Cause=b7
   generalize M.wordOk c.Timer=b9
   cases b0 <;> cases b2 <;> cases b3 <;> cases b4 <;> cases b7 <;> cases b5 <;> cases b6 <;> rfl
structure SmallC (c : DCore) : Prop where
 regs:c.Regs.length≤1048576
structure SmallB (b : DBare) : Prop where
 c:SmallC b.C
 mem:b.Mem.length≤1048576
 i:b.In.length≤1048576
 o:b.Out.length≤1048576
theorem bareOk_i {b:DBare} (h:SmallB b):F_impl_BareOk b=some (M.bareOk b):=by
 have:=h.c.regs; have:=h.mem; have:=h.i; have:=h.o
 unfold F_impl_BareOk
 simp only [coreOk_i (show b.C.Regs.length≤9223372036854775806 by omega),memOk_i (show b.Mem.length≤9223372036854775806 by omega),rowOk_i (show b.In.length≤9223372036854775806 by omega),rowOk_i (show b.Out.length≤9223372036854775806 by omega),Option.bind_some,M.bareOk]
 cases M.coreOk b.C <;> cases M.memOk b.Mem <;> cases M.rowOk b.In <;> rfl
theorem bareOk_s {b:DBare} (h:SmallB b):F_spec_BareOk b=some (M.bareOk b):=by
 have:=h.c.regs; have:=h.mem; have:=h.i; have:=h.o
 unfold F_spec_BareOk
 simp only [coreOk_s (show b.C.Regs.length≤9223372036854775806 by omega),memOk_s (show b.Mem.length≤9223372036854775806 by omega),words_s (show b.In.length≤9223372036854775806 by omega),words_s (show b.Out.length≤9223372036854775806 by omega),Option.bind_some,M.bareOk]
 cases M.coreOk b.C <;> cases M.memOk b.Mem <;> cases M.rowOk b.In <;> rfl
end Go.Proofs.Ytlikfpmbcdlnjaa
namespace Go.Proofs.Ytlikfpmbcdlnjaa
set_option linter.all false
theorem toCore_eq {c:DCore} (h:SmallC c):F_laws_toCore c=some c:=by
 unfold F_laws_toCore; rw [toIntS_eq h.regs]; rfl
theorem eqCore_eq {a b:DCore} (h:a.Regs.length≤9223372036854775807):F_laws_eqCore a b=some (decide (a=b)):=by
 unfold F_laws_eqCore
 rw [eqIntS_eq h]
 obtain ⟨r,p1,p2,p3,p4,p5,p6,p7,p8,p9,p10,p11,p12⟩:=a
 obtain ⟨r',q1,q2,q3,q4,q5,q6,q7,q8,q9,q10,q11,q12⟩:=b
 simp only [Option.bind_some,DCore.mk.injEq]
 by_cases h0:r=r' <;> by_cases h1:p1=q1 <;> by_cases h2:p2=q2 <;> by_cases h3:p3=q3 <;> by_cases h4:p4=q4 <;> by_cases h6:p6=q6 <;> by_cases h7:p7=q7 <;> by_cases h8:p8=q8 <;> simp [*]
 cases p5 <;> cases q5 <;> cases p9 <;> cases q9 <;> cases p10 <;> cases q10 <;> cases p11 <;> cases q11 <;> cases p12 <;> cases q12 <;> rfl
theorem szCore_eq {c:DCore} {left:Int} (h:c.Regs.length≤9223372036854775807) (h0:0≤left) (h1:left≤1048576):F_laws_szCore c left=some (if (c.Regs.length:Int)≤left then left - c.Regs.length else -1):=by
 unfold F_laws_szCore
 rw [szIntS_eq h h0 h1]
 simp only [Option.bind_some]
 split
 · have:decide (left - (c.Regs.length:Int)<0)=false:=by simp; omega
   rw [this]; rfl
 · rfl
theorem lt_t {v:Int} (h:v<0):decide (v<0)=true:=decide_eq_true h
end Go.Proofs.Ytlikfpmbcdlnjaa
namespace Go.Proofs.Ytlikfpmbcdlnjaa
set_option linter.all false
theorem getD_mid {T:Type} [Inhabited T] {pre suf:List T} {x:T}:(pre ++ x::suf).getD pre.length default=x:=by simp [List.getD]
theorem copy_loop {T:Type} [Inhabited T] {xs ys:List T} {step:List T × Int→Option (LO (List T × Int) (JO (List T) (List T)))} (hl:ys.length=xs.length)
 (hs:∀ (k:Nat) (zs:List T),k<xs.length→zs.length=xs.length→step (zs,(k:Int))=some (.next (zs.set k (xs.getD k default),(k:Int)+1)))
 (he:∀ zs:List T,zs.length=xs.length→step (zs,(xs.length:Int))=some (.ret (.go zs))):iter step (ys,0)=some (.ret (.go xs)):=by
 have key:∀ (n k:Nat) (zs:List T),k+n=xs.length→zs.length=xs.length→(∀ i,i<k→zs[i]?=xs[i]?)→iter step (zs,(k:Int))=some (.ret (.go xs)):=by
  intro n
  induction n with
  | zero =>
   intro k zs hk hz h
   have e:zs=xs:=by
    apply List.ext_getElem?
    intro i
    by_cases hi:i<k
    · exact h i hi
    · rw [List.getElem?_eq_none (by omega),List.getElem?_eq_none (by omega)]
   have hk:k=xs.length:=by omega
   rw [iter_eq,hk,he zs hz,e]
  | succ n ih =>
   intro k zs hk hz h
   rw [iter_eq,hs k zs (by omega) hz]
   have:=ih (k+1) (zs.set k (xs.getD k default)) (by omega) (by simpa using hz) (fun i hi=>by
    rw [List.getElem?_set]
    by_cases e:k=i
    · subst e; rw [if_pos rfl,if_pos (by omega),getD_lt (by omega),List.getElem?_eq_getElem (by omega)]
    · rw [if_neg e]; exact h i (by omega))
   simpa using this
 simpa using key xs.length 0 ys (by omega) hl (by simp)
def marks {T:Type} (m:T→Int→T × Int):List T→Int→List T × Int
 | [],k=>([],k)
 | x::xs,k=>((m x k).1::(marks m xs (m x k).2).1,(marks m xs (m x k).2).2)
theorem marks_len {T:Type} {m:T→Int→T × Int}:∀ {xs:List T} {k:Int},(marks m xs k).1.length=xs.length
 | [],_=>rfl
 | x::xs,k=>by simp [marks,marks_len]
theorem marks_le {T:Type} {m:T→Int→T × Int} {C:Int}:∀ {xs:List T} {k:Int},(∀ x ∈ xs,∀ k,k≤(m x k).2∧(m x k).2≤k+C)→k≤(marks m xs k).2∧(marks m xs k).2≤k+xs.length*C
 | [],k,_=>by simp [marks]
 | x::xs,k,h=>by
  have h1:=h x (by simp) k
  have h2:=marks_le (xs:=xs) (k:=(m x k).2) fun y hy=>h y (by simp [hy])
  simp only [marks,List.length_cons]
  have:((xs.length+1:Nat):Int)*C=(xs.length:Int)*C+C:=by rw [Int.natCast_add,Int.add_mul]; simp
  omega
theorem mark_loop {T:Type} [Inhabited T] {m:T→Int→T × Int} {C B:Int} {step:List T × Int × Int→Option (LO (List T × Int × Int) (JO (Int × List T) (List T × Int)))} {xs:List T} {k:Int}
 (hm:∀ x ∈ xs,∀ k,k≤(m x k).2∧(m x k).2≤k+C) (hk:0≤k) (hB:k+xs.length*C≤B) (hC:0≤C)
 (hs:∀ (zs:List T) (i:Nat) (q:Int),zs.length=xs.length→i<zs.length→zs.getD i default ∈ xs→0≤q→q≤B - C→step (zs,q,(i:Int))=some (.next (zs.set i (m (zs.getD i default) q).1,(m (zs.getD i default) q).2,(i:Int)+1)))
 (he:∀ (zs:List T) (q:Int),zs.length=xs.length→step (zs,q,(zs.length:Int))=some (.ret (.go (q,zs)))):iter step (xs,k,0)=some (.ret (.go ((marks m xs k).2,(marks m xs k).1))):=by
 have key:∀ (suf pre:List T) (q:Int),(pre ++ suf).length=xs.length→(∀ x ∈ suf,x ∈ xs)→0≤q→q+suf.length*C≤B→iter step (pre ++ suf,q,(pre.length:Int))=some (.ret (.go ((marks m suf q).2,pre ++ (marks m suf q).1))):=by
  intro suf
  induction suf with
  | nil =>
   intro pre q hl _ _ _
   rw [List.append_nil] at hl ⊢
   rw [iter_eq,he pre q hl]; simp [marks]
  | cons x suf ih =>
   intro pre q hl hx hq hb
   have e1:(pre ++ x::suf).getD pre.length default=x:=getD_mid
   have hb1:((suf.length+1:Nat):Int)*C=(suf.length:Int)*C+C:=by rw [Int.natCast_add,Int.add_mul]; simp
   have hnn:0≤(suf.length:Int)*C:=Int.mul_nonneg (by omega) hC
   simp only [List.length_cons] at hb
   have h1:=hm x (hx x (by simp)) q
   rw [iter_eq,hs (pre ++ x::suf) pre.length q hl (by simp) (by rw [e1]; exact hx x (by simp)) hq (by omega)]
   rw [e1]
   have e2:(pre ++ x::suf).set pre.length (m x q).1=(pre ++ [(m x q).1]) ++ suf:=by simp
   have:=ih (pre ++ [(m x q).1]) (m x q).2 (by simpa using hl) (fun y hy=>hx y (by simp [hy])) (by omega) (by omega)
   simp only [List.length_append,List.length_cons,List.length_nil,Nat.zero_add,Int.natCast_add] at this
   simp only [e2]
   rw [show (((1:Nat):Int))=1 from rfl] at this
   rw [this]
   simp [marks]
 simpa using key xs [] k rfl (fun _ h=>h) hk hB
theorem held_loop {T:Type} [Inhabited T] {m:T→Int→T × Int} {C B:Int} {step:List T→Int × Int→Option (LO (Int × Int) (JO Int Int))} {xs:List T} {k:Int}
 (hm:∀ x ∈ xs,∀ k,k≤(m x k).2∧(m x k).2≤k+C) (hk:0≤k) (hB:k+xs.length*C≤B) (hC:0≤C)
 (hs:∀ (zs:List T) (i:Nat) (x:T) (q:Int),zs.length=xs.length→i<zs.length→x ∈ xs→0≤q→q≤B - C→zs.getD i default=(m x q).1→step zs (q,(i:Int))=some (.next ((m x q).2,(i:Int)+1)))
 (he:∀ (zs:List T) (q:Int),zs.length=xs.length→step zs (q,(zs.length:Int))=some (.ret (.go q))):iter (step (marks m xs k).1) (k,0)=some (.ret (.go (marks m xs k).2)):=by
 have key:∀ (suf pre:List T) (q:Int),(pre ++ suf).length=xs.length→(∀ x ∈ suf,x ∈ xs)→0≤q→q+suf.length*C≤B→iter (step (pre ++ (marks m suf q).1)) (q,(pre.length:Int))=some (.ret (.go (marks m suf q).2)):=by
  intro suf
  induction suf with
  | nil =>
   intro pre q hl _ _ _
   simp only [marks]
   rw [List.append_nil] at hl ⊢
   rw [iter_eq,he pre q hl]
  | cons x suf ih =>
   intro pre q hl hx hq hb
   have hb1:((suf.length+1:Nat):Int)*C=(suf.length:Int)*C+C:=by rw [Int.natCast_add,Int.add_mul]; simp
   have hnn:0≤(suf.length:Int)*C:=Int.mul_nonneg (by omega) hC
   simp only [List.length_cons] at hb
   have h1:=hm x (hx x (by simp)) q
   simp only [marks]
   have e1:(pre ++ (m x q).1::(marks m suf (m x q).2).1).getD pre.length default=(m x q).1:=getD_mid
   rw [iter_eq,hs _ pre.length x q (by simpa [marks_len] using hl) (by simp) (hx x (by simp)) hq (by omega) e1]
   have:=ih (pre ++ [(m x q).1]) (m x q).2 (by simpa using hl) (fun y hy=>hx y (by simp [hy])) (by omega) (by omega)
   simp only [List.length_append,List.length_cons,List.length_nil,Nat.zero_add,Int.natCast_add,List.append_assoc,List.cons_append,List.nil_append] at this
   rw [show (((1:Nat):Int))=1 from rfl] at this
   exact this
 simpa using key xs [] k rfl (fun _ h=>h) hk hB
theorem eq_loop {T:Type} [Inhabited T] {xs ys:List T} {step:Int→Option (LO Int (JO Unit Bool))} {d:T→T→Bool} (hd:∀ x ∈ xs,∀ y,d x y=true↔x=y) (hl:xs.length=ys.length)
 (hs:∀ i:Nat,i<xs.length→xs.getD i default ∈ xs→step (i:Int)=some (bif d (xs.getD i default) (ys.getD i default) then .next ((i:Int)+1) else .ret (.out false)))
 (he:step (xs.length:Int)=some (.ret (.go ()))):∃ b:Bool,iter step 0=some (.ret (bif b then .go () else .out false))∧(b=true↔xs=ys):=by
 have key:∀ (n k:Nat),k+n=xs.length→∃ b:Bool,iter step (k:Int)=some (.ret (bif b then .go () else .out false))∧(b=true↔xs.drop k=ys.drop k):=by
  intro n
  induction n with
  | zero =>
   intro k hk
   have hk:k=xs.length:=by omega
   refine ⟨true,by rw [iter_eq,hk,he]; rfl,?_⟩
   subst hk
   simp [hl]
  | succ n ih =>
   intro k hk
   have hm:xs.getD k default ∈ xs:=by rw [getD_lt (by omega)]; exact List.getElem_mem _
   have e1:xs.drop k=xs.getD k default::xs.drop (k+1):=by rw [getD_lt (by omega)]; exact List.drop_eq_getElem_cons (by omega)
   have e2:ys.drop k=ys.getD k default::ys.drop (k+1):=by rw [getD_lt (by omega)]; exact List.drop_eq_getElem_cons (by omega)
   rw [iter_eq,hs k (by omega) hm,e1,e2]
   cases hdd:d (xs.getD k default) (ys.getD k default) with
   | true =>
    obtain ⟨b,h1,h2⟩:=ih (k+1) (by omega)
    refine ⟨b,by simpa using h1,?_⟩
    rw [h2,(hd _ hm _).1 hdd]; simp
   | false =>
    refine ⟨false,by simp,?_⟩
    have:xs.getD k default≠ys.getD k default:=fun e=>by rw [(hd _ hm _).2 e] at hdd; cases hdd
    simp only [List.cons.injEq,Bool.false_eq_true,false_iff]
    exact fun h=>this h.1
 obtain ⟨b,h1,h2⟩:=key xs.length 0 (by omega)
 exact ⟨b,by simpa using h1,by simpa using h2⟩
end Go.Proofs.Ytlikfpmbcdlnjaa
namespace Go.Proofs.Ytlikfpmbcdlnjaa
set_option linter.all false
section
variable {T σ S R : Type} [Inhabited T]
theorem chk_loop {xs:List T} {step:S→Option (LO S R)} (enc:σ→Int→S) (p:T→Bool) (g:σ→T→σ) (fin:σ→R) (r:R) (Inv:Nat→σ→Prop)
 (hs:∀ (i:Nat) x s,(i:Int)<(xs.length:Int)→x ∈ xs→xs.getD i default=x→Inv i s→step (enc s i)=some (bif p x then .next (enc (g s x) ((i:Int)+1)) else .ret r)∧(p x=true→Inv (i+1) (g s x)))
 (he:∀ s,Inv xs.length s→step (enc s xs.length)=some (.ret (fin s))) (s:σ) (hi:Inv 0 s) :
 iter step (enc s 0)=some (.ret (bif xs.all p then fin (xs.foldl g s) else r))∧(xs.all p=true→Inv xs.length (xs.foldl g s)):=by
 have key:∀ (suf pre:List T) (s:σ),xs=pre ++ suf→Inv pre.length s→iter step (enc s pre.length)=some (.ret (bif suf.all p then fin (suf.foldl g s) else r))∧(suf.all p=true→Inv xs.length (suf.foldl g s)):=by
  intro suf
  induction suf with
  | nil =>
   intro pre s hx hi
   rw [List.append_nil] at hx
   subst hx
   rw [iter_eq,he s hi]; exact ⟨rfl,fun _=>hi⟩
  | cons x suf ih =>
   intro pre s hx hi
   obtain ⟨h1,h2⟩:=hs pre.length x s (by rw [hx]; simp; omega) (by rw [hx]; simp) (by rw [hx]; simp [List.getD]) hi
   rw [iter_eq,h1]
   cases hp:p x with
   | false=>simp [List.all_cons,hp]
   | true =>
    obtain ⟨g1,g2⟩:=ih (pre ++ [x]) (g s x) (by rw [hx]; simp) (by simpa using h2 hp)
    simp only [List.length_append,List.length_cons,List.length_nil,Nat.zero_add,Int.natCast_add] at g1
    simp only [cond_true,List.all_cons,hp,Bool.true_and,List.foldl_cons]
    exact ⟨g1,g2⟩
 simpa using key xs [] s rfl hi
theorem fold_loop {xs:List T} {step:S→Option (LO S R)} (enc:σ→Int→S) (g:σ→T→σ) (fin:σ→R) (Inv:Nat→σ→Prop)
 (hs:∀ (i:Nat) x s,(i:Int)<(xs.length:Int)→x ∈ xs→xs.getD i default=x→Inv i s→step (enc s i)=some (.next (enc (g s x) ((i:Int)+1)))∧Inv (i+1) (g s x))
 (he:∀ s,Inv xs.length s→step (enc s xs.length)=some (.ret (fin s))) (s:σ) (hi:Inv 0 s) :
 iter step (enc s 0)=some (.ret (fin (xs.foldl g s)))∧Inv xs.length (xs.foldl g s):=by
 have h:=chk_loop (p:=fun _=>true) enc g fin (fin s) Inv (fun i x s h1 h2 h3 h4=>⟨(hs i x s h1 h2 h3 h4).1,fun _=>(hs i x s h1 h2 h3 h4).2⟩) he s hi
 have e:xs.all (fun _=>true)=true:=by simp
 rw [e] at h
 exact ⟨h.1,h.2 rfl⟩
theorem count_loop {n:Nat} {step:S→Option (LO S R)} (enc:σ→Int→S) (g:σ→Nat→σ) (fin:σ→R) (Inv:Nat→σ→Prop)
 (hs:∀ (i:Nat) s,i<n→Inv i s→step (enc s i)=some (.next (enc (g s i) ((i:Int)+1)))∧Inv (i+1) (g s i))
 (he:∀ s,Inv n s→step (enc s n)=some (.ret (fin s))) (s:σ) (hi:Inv 0 s) :
 iter step (enc s 0)=some (.ret (fin ((List.range n).foldl g s)))∧Inv n ((List.range n).foldl g s):=by
 have h:=fold_loop (xs:=List.range n) enc g fin Inv (fun i x s h1 h2 h3 h4=>by
  have hi:i<n:=by simpa using h1
  have:x=i:=by rw [← h3]; simp [List.getD,hi]
  subst this
  exact hs x s hi h4) (by simpa using he) s hi
 simpa using h
theorem chkn_loop {n:Nat} {step:S→Option (LO S R)} (enc:Int→S) (p:Nat→Bool) (a r:R)
 (hs:∀ (i:Nat),i<n→step (enc i)=some (bif p i then .next (enc ((i:Int)+1)) else .ret r))
 (he:step (enc n)=some (.ret a)) :
 iter step (enc 0)=some (.ret (bif (List.range n).all p then a else r)):=by
 have h:=chk_loop (xs:=List.range n) (σ:=Unit) (fun _ k=>enc k) p (fun _ _=>()) (fun _=>a) r (fun _ _=>True) (fun i x s h1 h2 h3 h4=>by
  have hi:i<n:=by simpa using h1
  have:x=i:=by rw [← h3]; simp [List.getD,hi]
  subst this
  exact ⟨hs x hi,fun _=>trivial⟩) (fun s _=>by simpa using he) () trivial
 exact h.1
theorem walk_loop {n:Nat} {step:S→Option (LO S R)} (st:Nat→S) (ok:Nat→Bool) (a r:R)
 (hs:∀ (i:Nat),i<n→(∀ j,j<i→ok j=true)→step (st i)=some (bif ok i then .next (st (i+1)) else .ret r))
 (he:(∀ j,j<n→ok j=true)→step (st n)=some (.ret a)) :
 iter step (st 0)=some (.ret (bif (List.range n).all ok then a else r)):=by
 have key:∀ m i,i+m=n→(∀ j,j<i→ok j=true)→iter step (st i)=some (.ret (bif (List.range n).all ok then a else r)):=by
  intro m
  induction m with
  | zero =>
   intro i hi ho
   have:i=n:=by omega
   subst this
   have e:(List.range i).all ok=true:=by simp only [List.all_eq_true,List.mem_range]; exact ho
   rw [iter_eq,he ho,e]; rfl
  | succ m ih =>
   intro i hi ho
   rw [iter_eq,hs i (by omega) ho]
   cases e:ok i with
   | true =>
    refine ih (i+1) (by omega) ?_
    intro j hj
    by_cases h:j=i
    · rw [h,e]
    · exact ho j (by omega)
   | false =>
    have e2:(List.range n).all ok=false:=by
     rw [List.all_eq_false]
     exact ⟨i,by rw [List.mem_range]; omega,by rw [e]; simp⟩
    rw [e2]; rfl
 exact key n 0 (by omega) fun j hj=>by omega
end
theorem foldl_flatMap' {α β σ:Type} {f:α→List β} {g:σ→β→σ}:∀ {xs:List α} {s:σ},xs.foldl (fun s x=>(f x).foldl g s) s=(xs.flatMap f).foldl g s
 | [],_=>rfl
 | x::xs,s=>by simp only [List.foldl_cons,List.flatMap_cons,List.foldl_append]; exact foldl_flatMap'
end Go.Proofs.Ytlikfpmbcdlnjaa
namespace Go.Proofs.Ytlikfpmbcdlnjaa
set_option linter.all false
noncomputable instance:DecidableEq DSlot:=fun a b=>Classical.propDecidable (a=b)
noncomputable instance:DecidableEq DGuest:=fun a b=>Classical.propDecidable (a=b)
noncomputable instance:DecidableEq DHost:=fun a b=>Classical.propDecidable (a=b)
structure SmallG (g : DGuest) : Prop where
 c:SmallC g.C
 pages:g.Pages.length≤1048576
 i:g.In.length≤1048576
 o:g.Out.length≤1048576
structure SmallH (h : DHost) : Prop where
 words:h.Words.length≤1048576
 guests:h.Guests.length≤1048576
 all:∀ g ∈ h.Guests,SmallG g
theorem getD_mem {T:Type} [Inhabited T] {xs:List T} {k:Nat} (h:k<xs.length):xs.getD k default ∈ xs:=by rw [getD_lt h]; exact List.getElem_mem _
namespace M
def noCore:DCore:=⟨[],0,0,0,0,false,0,0,0,false,false,false,false⟩
def noGuest:DGuest:=⟨false,noCore,[],[],[]⟩
def slotOk (s:DSlot):Bool:=bif decide (s.Frame = -1) then !s.Write && !s.Dirty else decide (0≤s.Frame) && decide (s.Frame<20)
noncomputable def guestOk (g:DGuest):Bool:=bif g.Live then coreOk g.C && (decide (g.Pages.length=8) && g.Pages.all slotOk) && rowOk g.In && rowOk g.Out else decide (g=noGuest)
def slots (gs:List DGuest):List DSlot:=gs.flatMap (·.Pages)
def many (ss:List DSlot) (f:Int):Nat:=ss.countP fun s=>decide (s.Frame=f)
def alone (ss:List DSlot):Bool:=ss.all fun s=>!s.Write || decide (many ss s.Frame≤1)
def bump (xs:List Int) (s:DSlot):List Int:=bif decide (s.Frame = -1) then xs else xs.set s.Frame.toNat (xs.getD s.Frame.toNat default+1)
def takers (ss:List DSlot):List Int:=ss.foldl bump (List.replicate 20 0)
noncomputable def hostOk (h:DHost):Bool:=decide (h.Words.length=160) && wordsOk h.Words && (decide (h.Guests.length=3) && h.Guests.all guestOk) && alone (slots h.Guests)
end M
theorem slotOk_i (s:DSlot):F_impl_slotOk s=some (M.slotOk s):=by
 unfold F_impl_slotOk M.slotOk
 by_cases h:s.Frame = -1
 · rw [decide_eq_true h]; cases s.Write <;> rfl
 · rw [decide_eq_false h]; simp only [cond_false]; exact cond_bs
theorem slotsOk_i {xs:List DSlot} (h:xs.length≤9223372036854775806):F_impl_slotsOk xs=some (decide (xs.length=8) && xs.all M.slotOk):=by
 unfold F_impl_slotsOk
 by_cases hl:xs.length=8
 · have:decide (((xs.length:Nat):Int)=8)=true:=by simp; omega
   rw [this,Bool.not_true,cond_false,all_loop slotOk_i h (F_impl_slotsOk_l2 xs) (fun k=>rfl),decide_eq_true hl]
   cases xs.all M.slotOk <;> rfl
 · have:decide (((xs.length:Nat):Int)=8)=false:=by simp; omega
   rw [this,decide_eq_false hl]; rfl
theorem dbe {a b:Bool} (h:a=true↔b=true):a=b:=Bool.eq_iff_iff.2 h
theorem isNoCore_i (c:DCore):F_impl_isNoCore c=some (decide (c=M.noCore)):=by
 obtain ⟨a1,a2,a3,a4,a5,a6,a7,a8,a9,a10,a11,a12,a13⟩:=c
 unfold F_impl_isNoCore
 simp only []
 by_cases h2:a2=0
 · by_cases h3:a3=0
   · by_cases h4:a4=0
     · by_cases h5:a5=0
       · by_cases h1:a1=[]
         · by_cases h8:a8=0
           · by_cases h7:a7=0
             · by_cases h9:a9=0
               · subst h1 h2 h3 h4 h5 h7 h8 h9
                 cases a6 <;> cases a10 <;> cases a11 <;> cases a12 <;> cases a13 <;> simp [M.noCore]
               · rw [decide_eq_false (p:=DCore.mk _ _ _ _ _ _ _ _ _ _ _ _ _=M.noCore) (by simp [M.noCore,h9])]
                 simp only [decide_eq_false h9]; cases a6 <;> cases a10 <;> cases a11 <;> cases a12 <;> simp
             · rw [decide_eq_false (p:=DCore.mk _ _ _ _ _ _ _ _ _ _ _ _ _=M.noCore) (by simp [M.noCore,h7])]
               simp only [decide_eq_false h7]; cases a6 <;> cases a10 <;> cases a11 <;> cases a12 <;> simp
           · rw [decide_eq_false (p:=DCore.mk _ _ _ _ _ _ _ _ _ _ _ _ _=M.noCore) (by simp [M.noCore,h8])]
             simp only [decide_eq_false h8]; cases a6 <;> cases a10 <;> cases a11 <;> cases a12 <;> simp
         · rw [decide_eq_false (p:=DCore.mk _ _ _ _ _ _ _ _ _ _ _ _ _=M.noCore) (by simp [M.noCore,h1])]
           have:decide (((a1.length:Nat):Int)=0)=false:=by simp [h1]
           simp only [this]; cases a6 <;> cases a10 <;> cases a11 <;> cases a12 <;> simp
       · rw [decide_eq_false (p:=DCore.mk _ _ _ _ _ _ _ _ _ _ _ _ _=M.noCore) (by simp [M.noCore,h5])]
         simp only [decide_eq_false h5]; cases a6 <;> cases a10 <;> cases a11 <;> cases a12 <;> simp
     · rw [decide_eq_false (p:=DCore.mk _ _ _ _ _ _ _ _ _ _ _ _ _=M.noCore) (by simp [M.noCore,h4])]
       simp only [decide_eq_false h4]; cases a6 <;> cases a10 <;> cases a11 <;> cases a12 <;> simp
   · rw [decide_eq_false (p:=DCore.mk _ _ _ _ _ _ _ _ _ _ _ _ _=M.noCore) (by simp [M.noCore,h3])]
     simp only [decide_eq_false h3]; cases a6 <;> cases a10 <;> cases a11 <;> cases a12 <;> simp
 · rw [decide_eq_false (p:=DCore.mk _ _ _ _ _ _ _ _ _ _ _ _ _=M.noCore) (by simp [M.noCore,h2])]
   simp only [decide_eq_false h2]; cases a6 <;> cases a10 <;> cases a11 <;> cases a12 <;> simp
theorem hasNothing_i {g:DGuest} (hl:g.Live=false):F_impl_hasNothing g=some (decide (g=M.noGuest)):=by
 unfold F_impl_hasNothing
 rw [isNoCore_i,Option.bind_some]
 obtain ⟨l,c,p,i,o⟩:=g
 simp only at hl
 subst hl
 simp only [M.noGuest,DGuest.mk.injEq,true_and]
 by_cases h1:c=M.noCore <;> by_cases h2:p=[] <;> by_cases h3:i=[] <;> by_cases h4:o=[] <;> simp [h1,h2,h3,h4]
theorem zero_s {g:DGuest} (hl:g.Live=false):F_spec_l4Zero g=some (decide (g=M.noGuest)):=by
 unfold F_spec_l4Zero
 obtain ⟨l,⟨a1,a2,a3,a4,a5,a6,a7,a8,a9,a10,a11,a12,a13⟩,p,i,o⟩:=g
 simp only at hl
 subst hl
 simp only [cond_b rfl,cond_bs]
 congr 1
 apply dbe
 simp only [Bool.and_eq_true,decide_eq_true_eq,Bool.not_eq_true',M.noGuest,M.noCore,DGuest.mk.injEq,DCore.mk.injEq,true_and,Int.natCast_eq_zero,List.length_eq_zero_iff]
 constructor
 · rintro ⟨h1,h2,h3,h4,h5,h6,h7,h8,h9,h10,h11,h12,h13,h14,h15,h16⟩; exact ⟨⟨h1,h2,h3,h4,h5,h6,h7,h8,h9,h10,h11,h12,h13⟩,h14,h15,h16⟩
 · rintro ⟨⟨h1,h2,h3,h4,h5,h6,h7,h8,h9,h10,h11,h12,h13⟩,h14,h15,h16⟩; exact ⟨h1,h2,h3,h4,h5,h6,h7,h8,h9,h10,h11,h12,h13,h14,h15,h16⟩
theorem guestOk_i {g:DGuest} (h:SmallG g):F_impl_guestOk g=some (M.guestOk g):=by
 have:=h.c.regs; have:=h.pages; have:=h.i; have:=h.o
 unfold F_impl_guestOk M.guestOk
 cases hl:g.Live with
 | false =>
  simp only [Bool.not_false,cond_true,hasNothing_i hl,Option.bind_some,cond_false]
 | true =>
  simp only [Bool.not_true,cond_false,cond_true]
  rw [coreOk_i (by omega),slotsOk_i (by omega),rowOk_i (by omega),rowOk_i (by omega)]
  simp only [Option.bind_some]
  cases M.coreOk g.C <;> cases (decide (g.Pages.length=8) && g.Pages.all M.slotOk) <;> cases M.rowOk g.In <;> rfl
theorem guestsOk_i {gs:List DGuest} (hl:gs.length≤1048576) (h:∀ g ∈ gs,SmallG g):F_impl_guestsOk gs=some (decide (gs.length=3) && gs.all M.guestOk):=by
 unfold F_impl_guestsOk
 by_cases hl:gs.length=3
 · have:decide (((gs.length:Nat):Int)=3)=true:=by simp; omega
   rw [this,Bool.not_true,cond_false,decide_eq_true hl,Bool.true_and]
   have key:=(chk_loop (xs:=gs) (σ:=Unit) (step:=F_impl_guestsOk_l2 gs) (fun _ k=>k) M.guestOk (fun _ _=>()) (fun _=>JO.go ()) (.out false) (fun _ _=>True) (fun i x s h1 h2 h3 h4=>by
    refine ⟨?_,fun _=>trivial⟩
    simp only [F_impl_guestsOk_l2,decide_eq_true h1,cond_true]
    rw [grd_t ⟨by omega,h1⟩,Int.toNat_natCast,h3]
    show Option.bind (F_impl_guestOk x) _=_
    rw [guestOk_i (h x h2),Option.bind_some,w64_in (by omega) (by omega)]
    cases M.guestOk x <;> rfl) (fun s _=>by
    simp only [F_impl_guestsOk_l2]; rw [decide_eq_false (by omega),cond_false]) () trivial).1
   rw [key]
   cases gs.all M.guestOk <;> rfl
 · have:decide (((gs.length:Nat):Int)=3)=false:=by simp; omega
   rw [this,decide_eq_false hl]; rfl
theorem set_get {xs:List Int} {i j:Nat} {v:Int} (hi:i<xs.length):(xs.set i v).getD j default=if i=j then v else xs.getD j default:=by
 by_cases h:i=j
 · subst h; simp [List.getD,hi]
 · simp [List.getD,List.getElem?_set,h]
theorem bump_len {xs:List Int} {s:DSlot}:(M.bump xs s).length=xs.length:=by
 unfold M.bump; cases decide (s.Frame = -1) <;> simp
theorem slot_range {s:DSlot} (h:M.slotOk s=true):-1≤s.Frame∧s.Frame<20:=by
 unfold M.slotOk at h
 by_cases e:s.Frame = -1
 · omega
 · rw [decide_eq_false e,cond_false,Bool.and_eq_true,decide_eq_true_eq,decide_eq_true_eq] at h; omega
theorem bump_get {xs:List Int} {s:DSlot} (hl:xs.length=20) (h:M.slotOk s=true) {f:Nat} (hf:f<20):(M.bump xs s).getD f default=xs.getD f default+(if s.Frame=(f:Int) then 1 else 0):=by
 have hr:=slot_range h
 unfold M.bump
 by_cases e:s.Frame = -1
 · rw [decide_eq_true e,cond_true,if_neg (by omega)]; omega
 · rw [decide_eq_false e,cond_false,set_get (by omega)]
   by_cases e2:s.Frame=(f:Int)
   · rw [if_pos (by omega),if_pos e2]; congr 2; omega
   · rw [if_neg (by omega),if_neg e2]; omega
theorem many_cons {s:DSlot} {ss:List DSlot} {f:Int}:M.many (s::ss) f=M.many ss f+(if s.Frame=f then 1 else 0):=by
 simp only [M.many,List.countP_cons,decide_eq_true_eq]
theorem bumps_get {f:Nat} (hf:f<20):∀ {ss:List DSlot} {xs:List Int},xs.length=20→ss.all M.slotOk=true→(ss.foldl M.bump xs).length=20∧(ss.foldl M.bump xs).getD f default=xs.getD f default+(M.many ss f:Int)
 | [],xs,hl,_=>⟨hl,by simp [M.many]⟩
 | s::ss,xs,hl,h=>by
  rw [List.all_cons,Bool.and_eq_true] at h
  obtain ⟨h1,h2⟩:=bumps_get hf (ss:=ss) (xs:=M.bump xs s) (by rw [bump_len,hl]) h.2
  refine ⟨h1,?_⟩
  rw [List.foldl_cons,h2,bump_get hl h.1 hf,many_cons]
  split <;> simp <;> omega
theorem takers_len {ss:List DSlot} (h:ss.all M.slotOk=true):(M.takers ss).length=20:=(bumps_get (f:=0) (by omega) (xs:=List.replicate 20 0) (by simp) h).1
theorem takers_get {ss:List DSlot} (h:ss.all M.slotOk=true) {f:Nat} (hf:f<20):(M.takers ss).getD f default=(M.many ss f:Int):=by
 unfold M.takers
 rw [(bumps_get (f:=f) hf (xs:=List.replicate 20 0) (by simp) h).2]
 have:(List.replicate 20 (0:Int)).getD f default=0:=by rw [getD_lt (by rw [List.length_replicate]; omega),List.getElem_replicate]
 omega
theorem guest_slots {g:DGuest} (h:M.guestOk g=true):g.Pages.all M.slotOk=true∧g.Pages.length≤8:=by
 unfold M.guestOk at h
 cases hl:g.Live with
 | true =>
  rw [hl,cond_true] at h
  simp only [Bool.and_eq_true,decide_eq_true_eq] at h
  exact ⟨h.1.1.2.2,by omega⟩
 | false =>
  rw [hl,cond_false,decide_eq_true_eq] at h
  rw [h]; exact ⟨rfl,by simp [M.noGuest]⟩
theorem all_slots {gs:List DGuest} (h:gs.all M.guestOk=true):(M.slots gs).all M.slotOk=true:=by
 simp only [M.slots,List.all_flatMap,List.all_eq_true] at h ⊢
 exact fun g hg=>List.all_eq_true.1 (guest_slots (h g hg)).1
structure Tl (B : Nat) (xs : List Int) : Prop where
 len:xs.length=20
 low:∀ i,i<20→0≤xs.getD i default
 top:∀ i,i<20→xs.getD i default≤(B:Int)
theorem Tl.mono {B C:Nat} {xs:List Int} (h:Tl B xs) (hB:B≤C):Tl C xs:=⟨h.len,h.low,fun i hi=>by have:=h.top i hi; omega⟩
theorem Tl.bump {B:Nat} {xs:List Int} {s:DSlot} (h:Tl B xs) (hs:M.slotOk s=true):Tl (B+1) (M.bump xs s):=by
 refine ⟨by rw [bump_len,h.len],fun i hi=>?_,fun i hi=>?_⟩
 all_goals rw [bump_get h.len hs hi]; have:=h.low i hi; have:=h.top i hi; split <;> omega
theorem Tl.zero:Tl 0 (List.replicate 20 0):=by
 refine ⟨by simp,fun i hi=>?_,fun i hi=>?_⟩
 all_goals rw [getD_lt (by rw [List.length_replicate]; omega),List.getElem_replicate]; omega
end Go.Proofs.Ytlikfpmbcdlnjaa
namespace Go.Proofs.Ytlikfpmbcdlnjaa
set_option linter.all false
theorem toSlotS_eq {xs:List DSlot} (h:xs.length≤1048576):F_laws_toSlotS xs=some xs:=by
 have key:=copy_loop (xs:=xs) (ys:=List.replicate (Int.toNat (xs.length:Int)) (DSlot.mk 0 false false)) (step:=F_laws_toSlotS_l2 xs) (by simp) (fun k zs hk hz=>by
  have h1:(k:Int)<(xs.length:Int):=by omega
  simp only [F_laws_toSlotS_l2,decide_eq_true h1,cond_true,hz]
  rw [grd_t ⟨by omega,h1⟩,Int.toNat_natCast]
  show Option.bind (some (xs.getD k default)) _=_
  rw [Option.bind_some,grd_t ⟨by omega,h1⟩,w64_in (by omega) (by omega)]) (fun zs hz=>by
  simp only [F_laws_toSlotS_l2]
  rw [decide_eq_false (by omega),cond_false])
 unfold F_laws_toSlotS
 rw [grd_t ⟨by omega,by omega,by omega⟩,key]; rfl
theorem toGuest_eq {g:DGuest} (h:SmallG g):F_laws_toGuest g=some g:=by
 unfold F_laws_toGuest; rw [toCore_eq h.c,toSlotS_eq h.pages,toIntS_eq h.i,toIntS_eq h.o]; rfl
theorem toGuestS_eq {xs:List DGuest} (h:xs.length≤1048576) (hs:∀ g ∈ xs,SmallG g):F_laws_toGuestS xs=some xs:=by
 have key:=copy_loop (xs:=xs) (ys:=List.replicate (Int.toNat (xs.length:Int)) (DGuest.mk false (DCore.mk ([]:List Int) (0:Int) (0:Int) (0:Int) (0:Int) false (0:Int) (0:Int) (0:Int) false false false false) ([]:List DSlot) ([]:List Int) ([]:List Int))) (step:=F_laws_toGuestS_l2 xs) (by simp) (fun k zs hk hz=>by
  have h1:(k:Int)<(xs.length:Int):=by omega
  simp only [F_laws_toGuestS_l2,decide_eq_true h1,cond_true,hz]
  rw [grd_t ⟨by omega,h1⟩,Int.toNat_natCast]
  show Option.bind (F_laws_toGuest (xs.getD k default)) _=_
  rw [toGuest_eq (hs _ (getD_mem hk)),Option.bind_some,grd_t ⟨by omega,h1⟩,w64_in (by omega) (by omega)]) (fun zs hz=>by
  simp only [F_laws_toGuestS_l2]
  rw [decide_eq_false (by omega),cond_false])
 unfold F_laws_toGuestS
 rw [grd_t ⟨by omega,by omega,by omega⟩,key]; rfl
theorem toHost_eq {h:DHost} (hs:SmallH h):F_laws_toHost h=some h:=by
 unfold F_laws_toHost; rw [toIntS_eq hs.words,toGuestS_eq hs.guests hs.all]; rfl
theorem eqSlot_eq {a b:DSlot}:F_laws_eqSlot a b=some (decide (a=b)):=by
 obtain ⟨f,w,d⟩:=a
 obtain ⟨f',w',d'⟩:=b
 unfold F_laws_eqSlot
 simp only [DSlot.mk.injEq]
 by_cases h:f=f' <;> cases w <;> cases w' <;> cases d <;> cases d' <;> simp [h]
theorem eqSlotS_eq {xs ys:List DSlot} (h:xs.length≤9223372036854775806):F_laws_eqSlotS xs ys=some (decide (xs=ys)):=by
 unfold F_laws_eqSlotS
 by_cases hl:xs.length=ys.length
 · obtain ⟨b,h1,h2⟩:=eq_loop (xs:=xs) (ys:=ys) (step:=F_laws_eqSlotS_l2 xs ys) (d:=fun x y=>decide (x=y)) (fun x _ y=>decide_eq_true_iff) hl (fun i hi _=>by
    have e1:(i:Int)<(xs.length:Int):=by omega
    simp only [F_laws_eqSlotS_l2,decide_eq_true e1,cond_true]
    rw [grd_t ⟨by omega,e1⟩,grd_t ⟨by omega,by omega⟩,Int.toNat_natCast]
    show Option.bind (F_laws_eqSlot (xs.getD i default) (ys.getD i default)) _=_
    rw [eqSlot_eq,Option.bind_some,w64_in (by omega) (by omega)]
    cases decide (xs.getD i default=ys.getD i default) <;> rfl) (by
    simp only [F_laws_eqSlotS_l2]; rw [decide_eq_false (by omega),cond_false])
   rw [h1,decide_eq_true (by omega)]
   have e:decide (xs=ys)=b:=by rw [Bool.eq_iff_iff,decide_eq_true_iff]; exact h2.symm
   rw [e]; cases b <;> rfl
 · rw [decide_eq_false (by omega),decide_eq_false (fun e=>hl (by rw [e]))]; rfl
theorem eqGuest_eq {a b:DGuest} (h:SmallG a):F_laws_eqGuest a b=some (decide (a=b)):=by
 have:=h.c.regs; have:=h.pages; have:=h.i; have:=h.o
 unfold F_laws_eqGuest
 rw [eqCore_eq (by omega),eqSlotS_eq (by omega),eqIntS_eq (by omega),eqIntS_eq (by omega)]
 obtain ⟨l,c,p,i,o⟩:=a
 obtain ⟨l',c',p',i',o'⟩:=b
 simp only [Option.bind_some,DGuest.mk.injEq]
 by_cases h1:c=c' <;> by_cases h2:p=p' <;> by_cases h3:i=i' <;> by_cases h4:o=o' <;> cases l <;> cases l' <;> simp [*]
theorem eqGuestS_eq {xs ys:List DGuest} (h:xs.length≤1048576) (hs:∀ g ∈ xs,SmallG g):F_laws_eqGuestS xs ys=some (decide (xs=ys)):=by
 unfold F_laws_eqGuestS
 by_cases hl:xs.length=ys.length
 · obtain ⟨b,h1,h2⟩:=eq_loop (xs:=xs) (ys:=ys) (step:=F_laws_eqGuestS_l2 xs ys) (d:=fun x y=>decide (x=y)) (fun x _ y=>decide_eq_true_iff) hl (fun i hi hm=>by
    have e1:(i:Int)<(xs.length:Int):=by omega
    simp only [F_laws_eqGuestS_l2,decide_eq_true e1,cond_true]
    rw [grd_t ⟨by omega,e1⟩,grd_t ⟨by omega,by omega⟩,Int.toNat_natCast]
    show Option.bind (F_laws_eqGuest (xs.getD i default) (ys.getD i default)) _=_
    rw [eqGuest_eq (hs _ hm),Option.bind_some,w64_in (by omega) (by omega)]
    cases decide (xs.getD i default=ys.getD i default) <;> rfl) (by
    simp only [F_laws_eqGuestS_l2]; rw [decide_eq_false (by omega),cond_false])
   rw [h1,decide_eq_true (by omega)]
   have e:decide (xs=ys)=b:=by rw [Bool.eq_iff_iff,decide_eq_true_iff]; exact h2.symm
   rw [e]; cases b <;> rfl
 · rw [decide_eq_false (by omega),decide_eq_false (fun e=>hl (by rw [e]))]; rfl
theorem eqHost_eq {a b:DHost} (h:SmallH a):F_laws_eqHost a b=some (decide (a=b)):=by
 have:=h.words
 unfold F_laws_eqHost
 rw [eqIntS_eq (by omega),eqGuestS_eq h.guests h.all]
 obtain ⟨w,g⟩:=a
 obtain ⟨w',g'⟩:=b
 simp only [Option.bind_some,DHost.mk.injEq]
 by_cases h1:w=w' <;> by_cases h2:g=g' <;> simp [*]
theorem szSlotS_eq {xs:List DSlot} {left:Int} (h:xs.length≤9223372036854775807) (h0:0≤left) (h1:left≤1048576):F_laws_szSlotS xs left=some (if (xs.length:Int)≤left then left - xs.length else -1):=by
 unfold F_laws_szSlotS
 rw [w64_in (by omega) (by omega)]
 by_cases hl:(xs.length:Int)≤left
 · rw [decide_eq_false (by omega),if_pos hl]; rfl
 · rw [decide_eq_true (by omega),if_neg hl]; rfl
structure FitG (g : DGuest) : Prop where
 c:g.C.Regs.length≤9223372036854775807
 pages:g.Pages.length≤9223372036854775807
 i:g.In.length≤9223372036854775807
 o:g.Out.length≤9223372036854775807
theorem szGuest_eq {g:DGuest} {left:Int} (h:FitG g) (h0:0≤left) (h1:left≤1048576):∃ v,F_laws_szGuest g left=some v∧(v<0∨(0≤v∧v≤left∧SmallG g)):=by
 have:=h.c; have:=h.pages; have:=h.i; have:=h.o
 unfold F_laws_szGuest
 rw [szCore_eq (by omega) h0 h1]
 simp only [Option.bind_some]
 split
 · rename_i e1
   rw [decide_eq_false (by omega),cond_false,szSlotS_eq (by omega) (by omega) (by omega)]
   simp only [Option.bind_some]
   split
   · rename_i e2
     rw [decide_eq_false (by omega),cond_false,szIntS_eq (by omega) (by omega) (by omega)]
     simp only [Option.bind_some]
     split
     · rename_i e3
       rw [decide_eq_false (by omega),cond_false,szIntS_eq (by omega) (by omega) (by omega)]
       simp only [Option.bind_some]
       split
       · rename_i e4
         rw [decide_eq_false (by omega),cond_false]
         exact ⟨_,rfl,.inr ⟨by omega,by omega,⟨by omega⟩,by omega,by omega,by omega⟩⟩
       · exact ⟨-1,rfl,.inl (by omega)⟩
     · exact ⟨-1,rfl,.inl (by omega)⟩
   · exact ⟨-1,rfl,.inl (by omega)⟩
 · exact ⟨-1,rfl,.inl (by omega)⟩
theorem szGuestS_eq {xs:List DGuest} {left:Int} (hl:xs.length≤9223372036854775807) (h:∀ g ∈ xs,FitG g) (h0:0≤left) (h1:left≤1048576):∃ v,F_laws_szGuestS xs left=some v∧(v<0∨(0≤v∧v≤left∧xs.length≤1048576∧∀ g ∈ xs,SmallG g)):=by
 unfold F_laws_szGuestS
 rw [w64_in (by omega) (by omega)]
 by_cases e:left - (xs.length:Int)<0
 · rw [decide_eq_true e]; exact ⟨-1,rfl,.inl (by omega)⟩
 · rw [decide_eq_false e,cond_false]
   have key:∀ (suf pre:List DGuest) (q:Int),xs=pre ++ suf→0≤q→q≤left→∃ j:JO Int Int,iter (F_laws_szGuestS_l2 xs) (q,(pre.length:Int))=some (.ret j)∧(j = .out (-1)∨∃ v,j = .go v∧0≤v∧v≤q∧∀ g ∈ suf,SmallG g):=by
    intro suf
    induction suf with
    | nil =>
     intro pre q hx hq _
     rw [List.append_nil] at hx
     refine ⟨.go q,?_,.inr ⟨q,rfl,hq,Int.le_refl _,by simp⟩⟩
     rw [iter_eq]
     simp only [F_laws_szGuestS_l2]
     rw [decide_eq_false (by rw [hx]; omega),cond_false]
    | cons x suf ih =>
     intro pre q hx hq hq1
     have e1:((pre.length:Nat):Int)<(xs.length:Int):=by rw [hx]; simp; omega
     have e2:xs.getD pre.length default=x:=by rw [hx]; exact getD_mid
     obtain ⟨v,g1,g2⟩:=szGuest_eq (h x (by rw [hx]; simp)) hq (by omega)
     have st:F_laws_szGuestS_l2 xs (q,(pre.length:Int))=cond (decide (v<0)) (some (.ret (.out (-1)))) (some (.next (v,(pre.length:Int)+1))):=by
      simp only [F_laws_szGuestS_l2,decide_eq_true e1,cond_true]
      rw [grd_t ⟨by omega,e1⟩,Int.toNat_natCast,e2]
      show Option.bind (F_laws_szGuest x q) _=_
      rw [g1,Option.bind_some,w64_in (by omega) (by omega)]
     rw [iter_eq,st]
     rcases g2 with g2 | ⟨g2,g3,g4⟩
     · rw [decide_eq_true g2]; exact ⟨_,rfl,.inl rfl⟩
     · rw [decide_eq_false (by omega),cond_false]
       obtain ⟨j,k1,k2⟩:=ih (pre ++ [x]) v (by rw [hx]; simp) g2 (by omega)
       simp only [List.length_append,List.length_cons,List.length_nil,Nat.zero_add,Int.natCast_add] at k1
       refine ⟨j,k1,k2.imp id fun ⟨u,u1,u2,u3,u4⟩=>⟨u,u1,u2,by omega,fun g hg=>?_⟩⟩
       rcases List.mem_cons.1 hg with rfl | hg
       · exact g4
       · exact u4 g hg
   obtain ⟨j,k1,k2⟩:=key xs [] (left - xs.length) rfl (by omega) (by omega)
   rw [show ((([]:List DGuest).length:Nat):Int)=0 from rfl] at k1
   rw [k1]
   rcases k2 with rfl | ⟨v,rfl,k3,k4,k5⟩
   · exact ⟨-1,rfl,.inl (by omega)⟩
   · exact ⟨v,rfl,.inr ⟨k3,by omega,by omega,k5⟩⟩
structure FitH (h : DHost) : Prop where
 words:h.Words.length≤9223372036854775807
 guests:h.Guests.length≤9223372036854775807
 all:∀ g ∈ h.Guests,FitG g
theorem szHost_eq {h:DHost} {left:Int} (hf:FitH h) (h0:0≤left) (h1:left≤1048576):∃ v,F_laws_szHost h left=some v∧(v<0∨(0≤v∧v≤left∧SmallH h)):=by
 unfold F_laws_szHost
 rw [szIntS_eq hf.words h0 h1]
 simp only [Option.bind_some]
 split
 · rename_i e1
   rw [decide_eq_false (by omega),cond_false]
   obtain ⟨v,g1,g2⟩:=szGuestS_eq hf.guests hf.all (left:=left - h.Words.length) (by omega) (by omega)
   rw [g1,Option.bind_some]
   rcases g2 with g2 | ⟨g2,g3,g4,g5⟩
   · rw [decide_eq_true g2]; exact ⟨-1,rfl,.inl (by omega)⟩
   · rw [decide_eq_false (by omega),cond_false]
     exact ⟨v,rfl,.inr ⟨g2,by omega,by omega,g4,g5⟩⟩
 · exact ⟨-1,rfl,.inl (by omega)⟩
end Go.Proofs.Ytlikfpmbcdlnjaa
namespace Go.Proofs.Ytlikfpmbcdlnjaa
set_option linter.all false
theorem bump_go {xs:List Int} {s:DSlot} {B:Nat} (hs:M.slotOk s=true) (ht:Tl B xs) (hB:B≤1000000000) {Y:Type}:(cond (!decide (s.Frame=(-1:Int))) (grd ((0:Int)≤s.Frame∧s.Frame<((xs.length:Nat):Int)) (grd ((0:Int)≤s.Frame∧s.Frame<((xs.length:Nat):Int)) (some (JO.go (List.set xs (Int.toNat s.Frame) (w64 ((List.getD xs (Int.toNat s.Frame) default)+(1:Int)))))))) (some (JO.go xs)):Option (JO (List Int) Y))=some (.go (M.bump xs s)):=by
 have hr:=slot_range hs
 have hl:=ht.len
 unfold M.bump
 by_cases e:s.Frame = -1
 · rw [decide_eq_true e]; rfl
 · rw [decide_eq_false e]
   have h1:=ht.low s.Frame.toNat (by omega)
   have h2:=ht.top s.Frame.toNat (by omega)
   rw [Bool.not_false,cond_true,cond_false,grd_t ⟨by omega,by omega⟩,grd_t ⟨by omega,by omega⟩,w64_in (by omega) (by omega)]
theorem takers_i {gs:List DGuest} (hl:gs.length≤1048576) (h:gs.all M.guestOk=true):F_impl_frameTakers gs=some (M.takers (M.slots gs)):=by
 have hin:∀ (k:Nat) (g:DGuest) (xs:List Int) (h1:(k:Int)<(gs.length:Int)) (h2:g ∈ gs) (h3:gs.getD k default=g) (h4:Tl (8*k) xs),
  iter (F_impl_frameTakers_l4 gs (xs,(k:Int))) (xs,0)=some (.ret (.go (g.Pages.foldl M.bump xs)))∧Tl (8*k+g.Pages.length) (g.Pages.foldl M.bump xs):=by
  intro k g xs h1 h2 h3 h4
  obtain ⟨g1,g2⟩:=guest_slots (List.all_eq_true.1 h g h2)
  exact fold_loop (xs:=g.Pages) (step:=F_impl_frameTakers_l4 gs (xs,(k:Int))) (fun s j=>(s,j)) M.bump (fun s=>.go s) (fun j s=>Tl (8*k+j) s) (fun j x s a1 a2 a3 a4=>by
   refine ⟨?_,a4.bump (List.all_eq_true.1 g1 x a2)⟩
   simp only [F_impl_frameTakers_l4,Int.toNat_natCast,h3,decide_eq_true a1,cond_true]
   rw [grd_t ⟨by omega,a1⟩,a3,bump_go (List.all_eq_true.1 g1 x a2) a4 (by omega),Option.bind_some]
   simp only [JO.run,F_impl_frameTakers_j5]
   rw [w64_in (by omega) (by omega)]) (fun s _=>by
   simp only [F_impl_frameTakers_l4,Int.toNat_natCast,h3]; rw [decide_eq_false (by omega),cond_false]) xs h4
 have key:=(fold_loop (xs:=gs) (step:=F_impl_frameTakers_l2 gs) (fun s j=>(s,j)) (fun s g=>g.Pages.foldl M.bump s) (fun s=>.go s) (fun k s=>Tl (8*k) s) (fun k g s a1 a2 a3 a4=>by
  obtain ⟨b1,b2⟩:=hin k g s a1 a2 a3 a4
  refine ⟨?_,b2.mono (by have:=(guest_slots (List.all_eq_true.1 h g a2)).2; omega)⟩
  simp only [F_impl_frameTakers_l2,decide_eq_true a1,cond_true]
  rw [grd_t ⟨by omega,a1⟩,b1]
  simp only [Option.bind_some,LO.val,JO.run,F_impl_frameTakers_j3]
  rw [w64_in (by omega) (by omega)]) (fun s _=>by
  simp only [F_impl_frameTakers_l2]; rw [decide_eq_false (by omega),cond_false]) (List.replicate 20 0) (Tl.zero.mono (by omega))).1
 unfold F_impl_frameTakers
 rw [show Int.toNat (20:Int)=20 from rfl,key]
 simp only [Option.bind_some,LO.val,JO.run,F_impl_frameTakers_j1]
 rw [foldl_flatMap']; rfl
theorem alone_i {gs:List DGuest} (hl:gs.length≤1048576) (h:gs.all M.guestOk=true) (hwr:True):F_impl_writersAreAlone gs=some (M.alone (M.slots gs)):=by
 unfold F_impl_writersAreAlone
 rw [takers_i hl h,Option.bind_some]
 have hs:=all_slots h
 have hin:∀ (k:Nat) (g:DGuest) (h1:(k:Int)<(gs.length:Int)) (h2:g ∈ gs) (h3:gs.getD k default=g),
  iter (F_impl_writersAreAlone_l5 gs (M.takers (M.slots gs)) (k:Int)) 0=some (.ret (bif g.Pages.all (fun s=>!s.Write || decide (M.many (M.slots gs) s.Frame≤1)) then .go () else .out (.ret (.out false)))):=by
  intro k g h1 h2 h3
  obtain ⟨g1,g2⟩:=guest_slots (List.all_eq_true.1 h g h2)
  exact (chk_loop (xs:=g.Pages) (σ:=Unit) (step:=F_impl_writersAreAlone_l5 gs (M.takers (M.slots gs)) (k:Int)) (fun _ j=>j) _ (fun _ _=>()) (fun _=>JO.go ()) _ (fun _ _=>True) (fun j x s a1 a2 a3 _=>by
   refine ⟨?_,fun _=>trivial⟩
   have hx:=List.all_eq_true.1 g1 x a2
   have hr:=slot_range hx
   simp only [F_impl_writersAreAlone_l5,Int.toNat_natCast,h3,decide_eq_true a1,cond_true,a3]
   rw [grd_t ⟨by omega,a1⟩]
   cases hw:x.Write with
   | false =>
    simp only [cond_false,Option.bind_some,JO.run,F_impl_writersAreAlone_j6,Bool.not_false,Bool.true_or,cond_true]
    rw [w64_in (by omega) (by omega)]
   | true =>
    have hf:x.Frame≠-1:=fun e=>by
     unfold M.slotOk at hx
     rw [decide_eq_true e,hw] at hx; simp at hx
    have hlt:=takers_len hs
    simp only [cond_true]
    rw [grd_t ⟨by omega,by omega⟩,takers_get hs (by omega),show ((x.Frame.toNat:Nat):Int)=x.Frame by omega]
    by_cases e:M.many (M.slots gs) x.Frame≤1
    · rw [decide_eq_false (by omega),decide_eq_true e]
      simp only [cond_false,Option.bind_some,JO.run,F_impl_writersAreAlone_j6,Bool.not_true,Bool.false_or,cond_true]
      rw [w64_in (by omega) (by omega)]
    · rw [decide_eq_true (by omega),decide_eq_false e]; rfl) (fun s _=>by
   simp only [F_impl_writersAreAlone_l5,Int.toNat_natCast,h3]; rw [decide_eq_false (by omega),cond_false]) () trivial).1
 have key:=(chk_loop (xs:=gs) (σ:=Unit) (step:=F_impl_writersAreAlone_l3 gs (M.takers (M.slots gs))) (fun _ j=>j) (fun g=>g.Pages.all (fun s=>!s.Write || decide (M.many (M.slots gs) s.Frame≤1))) (fun _ _=>()) (fun _=>JO.go ()) (.out false) (fun _ _=>True) (fun k g s a1 a2 a3 _=>by
  refine ⟨?_,fun _=>trivial⟩
  simp only [F_impl_writersAreAlone_l3,decide_eq_true a1,cond_true]
  rw [grd_t ⟨by omega,a1⟩,hin k g a1 a2 a3]
  cases g.Pages.all (fun s=>!s.Write || decide (M.many (M.slots gs) s.Frame≤1)) with
  | false=>rfl
  | true =>
   simp only [cond_true,Option.bind_some,LO.val,JO.run,F_impl_writersAreAlone_j4]
   rw [w64_in (by omega) (by omega)]) (fun s _=>by
  simp only [F_impl_writersAreAlone_l3]; rw [decide_eq_false (by omega),cond_false]) () trivial).1
 rw [key]
 have e:M.alone (M.slots gs)=gs.all (fun g=>g.Pages.all (fun s=>!s.Write || decide (M.many (M.slots gs) s.Frame≤1))):=by
  simp only [M.alone]
  conv=>lhs; arg 1; unfold M.slots
  rw [List.all_flatMap]
 rw [e]
 cases gs.all (fun g=>g.Pages.all (fun s=>!s.Write || decide (M.many (M.slots gs) s.Frame≤1))) <;> rfl
theorem hostOk_i {h:DHost} (hs:SmallH h):F_impl_HostOk h=some (M.hostOk h):=by
 have:=hs.words
 unfold F_impl_HostOk M.hostOk
 by_cases hl:h.Words.length=160
 · rw [show decide (((h.Words.length:Nat):Int)=160)=true by simp; omega,cond_true,wordsOk_i (by omega),decide_eq_true hl,Option.bind_some]
   cases M.wordsOk h.Words with
   | false=>rfl
   | true =>
    rw [cond_true,guestsOk_i hs.guests hs.all,Option.bind_some]
    cases hg:(decide (h.Guests.length=3) && h.Guests.all M.guestOk) with
    | false=>rfl
    | true =>
     rw [Bool.and_eq_true] at hg
     rw [cond_true,alone_i hs.guests hg.2 trivial]; rfl
 · rw [show decide (((h.Words.length:Nat):Int)=160)=false by simp; omega,decide_eq_false hl]; rfl
end Go.Proofs.Ytlikfpmbcdlnjaa
namespace Go.Proofs.Ytlikfpmbcdlnjaa
set_option linter.all false
theorem wordsN_s {xs:List Int} {n:Int} (h:xs.length≤9223372036854775806):F_spec_l3Words xs n=some (decide ((xs.length:Int)≤n) && M.wordsOk xs):=by
 unfold F_spec_l3Words
 rw [all_loop wordOk_s h (F_spec_l3Words_l2 xs) (fun k=>rfl)]
 simp only [M.wordsOk]
 cases xs.all M.wordOk
 · simp [LO.val,JO.run]
 · simp only [LO.val,JO.run,Option.bind_some,F_spec_l3Words_j1,cond_true,Bool.and_true]
namespace M
def bumpW (ws:List Bool) (s:DSlot):List Bool:=bif decide (s.Frame = -1) then ws else ws.set s.Frame.toNat (ws.getD s.Frame.toNat default || s.Write)
def bump2 (p:List Int × List Bool) (s:DSlot):List Int × List Bool:=(bump p.1 s,bumpW p.2 s)
end M
theorem setB_get {xs:List Bool} {i j:Nat} {v:Bool} (hi:i<xs.length):(xs.set i v).getD j default=if i=j then v else xs.getD j default:=by
 by_cases h:i=j
 · subst h; simp [List.getD,hi]
 · simp [List.getD,List.getElem?_set,h]
theorem bumpW_len {xs:List Bool} {s:DSlot}:(M.bumpW xs s).length=xs.length:=by
 unfold M.bumpW; cases decide (s.Frame = -1) <;> simp
theorem bumpW_get {xs:List Bool} {s:DSlot} (hl:xs.length=20) (h:M.slotOk s=true) {f:Nat} (hf:f<20):(M.bumpW xs s).getD f default=(xs.getD f default || (decide (s.Frame=(f:Int)) && s.Write)):=by
 have hr:=slot_range h
 unfold M.bumpW
 by_cases e:s.Frame = -1
 · rw [decide_eq_true e,cond_true,decide_eq_false (by omega)]; simp
 · rw [decide_eq_false e,cond_false,setB_get (by omega)]
   by_cases e2:s.Frame=(f:Int)
   · rw [if_pos (by omega),decide_eq_true e2,Bool.true_and]; congr 2; omega
   · rw [if_neg (by omega),decide_eq_false e2]; simp
theorem bump2_fst:∀ {ss:List DSlot} {p:List Int × List Bool},(ss.foldl M.bump2 p).1=ss.foldl M.bump p.1
 | [],_=>rfl
 | s::ss,p=>by rw [List.foldl_cons,bump2_fst]; rfl
theorem bump2_snd {f:Nat} (hf:f<20):∀ {ss:List DSlot} {p:List Int × List Bool},p.2.length=20→ss.all M.slotOk=true→(ss.foldl M.bump2 p).2.length=20∧(ss.foldl M.bump2 p).2.getD f default=(p.2.getD f default || ss.any fun s=>decide (s.Frame=(f:Int)) && s.Write)
 | [],p,hl,_=>⟨hl,by simp⟩
 | s::ss,p,hl,h=>by
  rw [List.all_cons,Bool.and_eq_true] at h
  obtain ⟨h1,h2⟩:=bump2_snd hf (ss:=ss) (p:=M.bump2 p s) (by simpa [M.bump2,bumpW_len] using hl) h.2
  refine ⟨h1,?_⟩
  rw [List.foldl_cons,h2,List.any_cons]
  simp only [M.bump2]
  rw [bumpW_get hl h.1 hf,Bool.or_assoc]
structure Tw (B : Nat) (p : List Int × List Bool) : Prop where
 tl:Tl B p.1
 len:p.2.length=20
theorem Tw.bump {B:Nat} {p:List Int × List Bool} {s:DSlot} (h:Tw B p) (hs:M.slotOk s=true):Tw (B+1) (M.bump2 p s):=⟨h.tl.bump hs,by simp [M.bump2,bumpW_len,h.len]⟩
theorem pages_s {h:DHost} {k:Nat} {g:DGuest} {p:List Int × List Bool} {B:Nat} (hl:g.Pages.length≤8) (h3:h.Guests.getD k default=g) (ht:Tw B p) (hB:B≤1000000) :
 iter (F_spec_HostOk_l12 h (p.1,p.2,(k:Int))) (p.1,p.2,0)=some (.ret (bif g.Pages.all M.slotOk then .go ((g.Pages.foldl M.bump2 p).1,(g.Pages.foldl M.bump2 p).2) else .out (.ret (.out false))))∧(g.Pages.all M.slotOk=true→Tw (B+g.Pages.length) (g.Pages.foldl M.bump2 p)):=by
 exact chk_loop (xs:=g.Pages) (step:=F_spec_HostOk_l12 h (p.1,p.2,(k:Int))) (fun s j=>(s.1,s.2,j)) M.slotOk M.bump2 (fun s=>.go (s.1,s.2)) (.out (.ret (.out false))) (fun j s=>Tw (B+j) s) (fun j x s a1 a2 a3 a4=>by
  refine ⟨?_,fun hx=>a4.bump hx⟩
  simp only [F_spec_HostOk_l12,Int.toNat_natCast,h3,decide_eq_true a1,cond_true,a3]
  rw [grd_t ⟨by omega,a1⟩,l1In_s,Option.bind_some]
  have hgo:M.slotOk x=true→F_spec_HostOk_j14 h (p.1,p.2,(k:Int)) (s.1,s.2,(j:Int)) ()=some (.go ((M.bump2 s x).2,(M.bump2 s x).1)):=fun hx=>by
   have hr:=slot_range hx
   have hl1:=a4.tl.len
   have hl2:=a4.len
   simp only [F_spec_HostOk_j14,Int.toNat_natCast,h3,a3,M.bump2,M.bump,M.bumpW]
   by_cases e:x.Frame = -1
   · rw [decide_eq_false (p:=(0:Int)≤x.Frame) (by omega),decide_eq_true e]; rfl
   · have q1:=a4.tl.low x.Frame.toNat (by omega)
     have q2:=a4.tl.top x.Frame.toNat (by omega)
     rw [decide_eq_true (p:=(0:Int)≤x.Frame) (by omega),decide_eq_false e]
     simp only [cond_true,cond_false]
     rw [grd_t ⟨by omega,by omega⟩,grd_t ⟨by omega,by omega⟩,grd_t ⟨by omega,by omega⟩,w64_in (by omega) (by omega)]
     cases hw:s.2.getD x.Frame.toNat default with
     | true=>rw [cond_true,grd_t ⟨by omega,by omega⟩,Bool.true_or]
     | false=>rw [cond_false,grd_t ⟨by omega,by omega⟩,Bool.false_or]
  by_cases e:x.Frame = -1
  · have hin:M.inR (-1) 19 x.Frame=true:=by rw [M.inR_iff]; omega
    rw [hin,Bool.not_true,cond_false,decide_eq_true e,cond_true]
    cases hw:x.Write with
    | true =>
     have:M.slotOk x=false:=by unfold M.slotOk; rw [decide_eq_true e,hw]; rfl
     rw [this]; rfl
    | false =>
     cases hd:x.Dirty with
     | true =>
      have:M.slotOk x=false:=by unfold M.slotOk; rw [decide_eq_true e,hw,hd]; rfl
      rw [this]; rfl
     | false =>
      have hx:M.slotOk x=true:=by unfold M.slotOk; rw [decide_eq_true e,hw,hd]; rfl
      rw [hx]
      simp only [cond_false,Option.bind_some,JO.run,hgo hx,F_spec_HostOk_j13,cond_true]
      rw [w64_in (by omega) (by omega)]
  · by_cases hin:M.inR (-1) 19 x.Frame=true
    · have hr:=M.inR_iff.1 hin
      have hx:M.slotOk x=true:=by unfold M.slotOk; rw [decide_eq_false e,cond_false,Bool.and_eq_true,decide_eq_true_eq,decide_eq_true_eq]; omega
      rw [hin,Bool.not_true,cond_false,decide_eq_false e,cond_false,hx]
      simp only [Option.bind_some,JO.run,hgo hx,F_spec_HostOk_j13,cond_true]
      rw [w64_in (by omega) (by omega)]
    · have hn:¬ (-1≤x.Frame∧x.Frame≤19):=fun c=>hin (M.inR_iff.2 c)
      have hx:M.slotOk x=false:=by
       cases hh:M.slotOk x with
       | false=>rfl
       | true=>have:=slot_range hh; omega
      rw [Bool.eq_false_iff.2 hin,hx]; rfl) (fun s _=>by
  simp only [F_spec_HostOk_l12,Int.toNat_natCast,h3]; rw [decide_eq_false (by omega),cond_false]) p ht
theorem guests_s {h:DHost} (hs:SmallH h) (hl:h.Guests.length=3) :
 iter (F_spec_HostOk_l6 h) (List.replicate 20 0,List.replicate 20 false,0)=some (.ret (bif h.Guests.all M.guestOk then .go (((M.slots h.Guests).foldl M.bump2 (List.replicate 20 0,List.replicate 20 false)).1,((M.slots h.Guests).foldl M.bump2 (List.replicate 20 0,List.replicate 20 false)).2) else .out false)):=by
 have key:=(chk_loop (xs:=h.Guests) (step:=F_spec_HostOk_l6 h) (fun (s:List Int × List Bool) j=>(s.1,s.2,j)) M.guestOk (fun s g=>g.Pages.foldl M.bump2 s) (fun s=>JO.go (s.1,s.2)) (.out false) (fun j s=>Tw (8*j) s) (fun k g s a1 a2 a3 a4=>by
  have hg:=hs.all g a2
  have:=hg.c.regs; have:=hg.pages; have:=hg.i; have:=hg.o
  refine ⟨?_,fun hx=>?_⟩
  · simp only [F_spec_HostOk_l6,Int.toNat_natCast,decide_eq_true a1,cond_true,a3]
    rw [grd_t ⟨by omega,a1⟩]
    cases hlv:g.Live with
    | false =>
     have e:F_spec_l4Zero (DGuest.mk false (DCore.mk g.C.Regs g.C.Pc g.C.Root g.C.Vector g.C.Saved g.C.SavedUser g.C.Cause g.C.Bad g.C.Timer g.C.Waits g.C.User g.C.On g.C.Stopped) g.Pages g.In g.Out)=some (decide (g=M.noGuest)):=by
      have:=zero_s hlv
      obtain ⟨l,c,p,i,o⟩:=g
      simp only at hlv
      subst hlv
      exact this
     rw [Bool.not_false,cond_true,e,Option.bind_some]
     have e2:M.guestOk g=decide (g=M.noGuest):=by unfold M.guestOk; rw [hlv]; rfl
     rw [e2]
     by_cases hz:g=M.noGuest
     · rw [decide_eq_true hz,hz]
       simp only [Bool.not_true,cond_false,Option.bind_some,JO.run,F_spec_HostOk_j7,cond_true,M.noGuest,List.foldl_nil]
       rw [w64_in (by omega) (by omega)]
     · rw [decide_eq_false hz]; rfl
    | true =>
     rw [Bool.not_true,cond_false]
     have e2:M.guestOk g=(M.coreOk g.C && (decide (g.Pages.length=8) && g.Pages.all M.slotOk) && M.rowOk g.In && M.rowOk g.Out):=by unfold M.guestOk; rw [hlv]; rfl
     show Option.bind (Option.bind (F_spec_CoreOk g.C) _) _=_
     rw [coreOk_s (by omega),Option.bind_some,e2]
     cases hc:M.coreOk g.C with
     | false=>rfl
     | true =>
      rw [Bool.not_true,cond_false,Bool.true_and]
      by_cases hp:g.Pages.length=8
      · rw [decide_eq_true hp,show decide (((g.Pages.length:Nat):Int)=8)=true by simp; omega,Bool.not_true,cond_false,words_s (by omega),Option.bind_some,words_s (by omega)]
        cases hri:M.rowOk g.In with
        | false=>simp [JO.run]
        | true =>
         rw [Bool.not_true,cond_false,Option.bind_some]
         cases hro:M.rowOk g.Out with
         | false=>simp [JO.run]
         | true =>
          rw [Bool.not_true,cond_false,(pages_s (by omega) a3 a4 (by omega)).1]
          cases hpp:g.Pages.all M.slotOk with
          | false=>rfl
          | true =>
           simp only [cond_true,Option.bind_some,LO.val,JO.run,F_spec_HostOk_j7,Bool.and_self]
           rw [w64_in (by omega) (by omega)]
      · rw [decide_eq_false hp,show decide (((g.Pages.length:Nat):Int)=8)=false by simp; omega]; rfl
  · obtain ⟨q1,q2⟩:=guest_slots hx
    have:=(pages_s q2 a3 a4 (by omega)).2 q1
    exact ⟨this.tl.mono (by omega),this.len⟩) (fun s _=>by
  simp only [F_spec_HostOk_l6]; rw [decide_eq_false (by omega),cond_false]) (List.replicate 20 0,List.replicate 20 false) ⟨Tl.zero.mono (by omega),by simp⟩).1
 rw [foldl_flatMap'] at key
 exact key
theorem alone_s {ss:List DSlot} (h:ss.all M.slotOk=true):((List.range 20).all fun f=>!(decide (1<M.many ss (f:Int)) && ss.any fun s=>decide (s.Frame=(f:Int)) && s.Write))=M.alone ss:=by
 apply dbe
 simp only [M.alone,List.all_eq_true,List.mem_range,Bool.not_eq_true',Bool.and_eq_false_iff,decide_eq_false_iff_not,List.any_eq_false,Bool.and_eq_true,decide_eq_true_eq,Bool.or_eq_true,not_and]
 constructor
 · intro q s hs
   cases hw:s.Write with
   | false=>exact .inl rfl
   | true =>
    have hx:=List.all_eq_true.1 h s hs
    have hr:=slot_range hx
    have hf:s.Frame≠-1:=fun e=>by
     unfold M.slotOk at hx
     rw [decide_eq_true e,hw] at hx; simp at hx
    rcases q s.Frame.toNat (by omega) with q | q
    · rw [show ((s.Frame.toNat:Nat):Int)=s.Frame by omega] at q
      exact .inr (by omega)
    · exact absurd hw (by simpa using q s hs (by omega))
 · intro q f hf
   by_cases hm:1<M.many ss (f:Int)
   · refine .inr fun s hs e=>?_
     rcases q s hs with q | q
     · simp [q]
     · rw [e] at q; omega
   · exact .inl hm
theorem hostOk_s {h:DHost} (hs:SmallH h):F_spec_HostOk h=some (M.hostOk h):=by
 have:=hs.words
 unfold F_spec_HostOk M.hostOk
 rw [wordsN_s (by omega),Option.bind_some]
 by_cases hl:h.Words.length=160
 · rw [decide_eq_true (p:=(h.Words.length:Int)≤160) (by omega),decide_eq_true hl]
   cases M.wordsOk h.Words with
   | false=>rfl
   | true =>
    rw [Bool.true_and,Bool.not_true,cond_false,decide_eq_true (p:=((h.Words.length:Nat):Int)=160) (by omega),Bool.not_true,cond_false]
    by_cases hg:h.Guests.length=3
    · rw [decide_eq_true hg,decide_eq_true (p:=((h.Guests.length:Nat):Int)=3) (by omega),Bool.not_true,cond_false]
      rw [show Int.toNat (20:Int)=20 from rfl,guests_s hs hg]
      cases ha:h.Guests.all M.guestOk with
      | false=>rfl
      | true =>
       have hsl:=all_slots ha
       simp only [cond_true,Option.bind_some,LO.val,JO.run,F_spec_HostOk_j2,Bool.true_and]
       rw [bump2_fst]
       have key:=chkn_loop (n:=20) (step:=F_spec_HostOk_l4 ((M.slots h.Guests).foldl M.bump (List.replicate 20 0),((M.slots h.Guests).foldl M.bump2 (List.replicate 20 0,List.replicate 20 false)).2)) (fun k=>k) (fun f=>!(decide (1<M.many (M.slots h.Guests) (f:Int)) && (M.slots h.Guests).any fun s=>decide (s.Frame=(f:Int)) && s.Write)) (JO.go ()) (.out false) (fun i hi=>by
        have q1:=takers_get hsl hi
        have q2:=takers_len hsl
        obtain ⟨q3,q4⟩:=bump2_snd hi (p:=(List.replicate 20 0,List.replicate 20 false)) (by simp) hsl
        unfold M.takers at q1 q2
        simp only [F_spec_HostOk_l4,Int.toNat_natCast]
        have e0:decide ((1:Int)<(List.foldl M.bump (List.replicate 20 0) (M.slots h.Guests)).getD i default)=decide (1<M.many (M.slots h.Guests) (i:Int)):=by rw [decide_eq_decide,q1]; omega
        rw [decide_eq_true (p:=(i:Int)<20) (by omega),cond_true,grd_t ⟨by omega,by omega⟩,e0,q4]
        rw [show (List.replicate 20 false).getD i default=false by rw [getD_lt (by rw [List.length_replicate]; omega),List.getElem_replicate],Bool.false_or]
        by_cases e:1<M.many (M.slots h.Guests) (i:Int)
        · rw [decide_eq_true e,cond_true,grd_t ⟨by omega,by omega⟩]
          cases (M.slots h.Guests).any fun s=>decide (s.Frame=(i:Int)) && s.Write with
          | true=>rfl
          | false =>
           simp only [cond_false,Option.bind_some,JO.run,F_spec_HostOk_j5,Bool.and_false,Bool.not_false,cond_true]
           rw [w64_in (by omega) (by omega)]
        · rw [decide_eq_false e]
          simp only [cond_false,Option.bind_some,JO.run,F_spec_HostOk_j5,Bool.false_and,Bool.not_false,cond_true]
          rw [w64_in (by omega) (by omega)]) (by
        simp only [F_spec_HostOk_l4]; rfl)
       rw [key,alone_s hsl]
       cases M.alone (M.slots h.Guests) <;> rfl
    · rw [decide_eq_false hg,decide_eq_false (p:=((h.Guests.length:Nat):Int)=3) (by omega)]; rfl
 · rw [decide_eq_false hl,decide_eq_false (p:=((h.Words.length:Nat):Int)=160) (by omega)]
   cases (decide ((h.Words.length:Int)≤160) && M.wordsOk h.Words) <;> rfl
end Go.Proofs.Ytlikfpmbcdlnjaa
namespace Go.Proofs.Ytlikfpmbcdlnjaa
set_option linter.all false
structure HOk (h : DHost) : Prop where
 len:h.Words.length=160
 words:M.wordsOk h.Words=true
 three:h.Guests.length=3
 all:h.Guests.all M.guestOk=true
 alone:M.alone (M.slots h.Guests)=true
theorem hOk_iff {h:DHost}:M.hostOk h=true↔HOk h:=by
 unfold M.hostOk
 simp only [Bool.and_eq_true,decide_eq_true_eq]
 exact ⟨fun ⟨⟨⟨a,b⟩,c,d⟩,e⟩=>⟨a,b,c,d,e⟩,fun h=>⟨⟨⟨h.len,h.words⟩,h.three,h.all⟩,h.alone⟩⟩
end Go.Proofs.Ytlikfpmbcdlnjaa
namespace Go.Proofs.Ytlikfpmbcdlnjaa
set_option linter.all false
namespace M
def freeStep (ss:List DSlot) (s:List Int) (i:Nat):List Int:=bif decide (many ss (i:Int)=0) then s ++ [(i:Int)] else s
def free (ss:List DSlot):List Int:=(List.range 20).foldl (freeStep ss) []
noncomputable def hostFree (h:DHost):List Int:=bif hostOk h then free (slots h.Guests) else []
end M
theorem free_iff {ss:List DSlot}:M.free ss=((List.range 20).filter fun (i:Nat)=>decide (M.many ss (i:Int)=0)).map fun (i:Nat)=>(i:Int):=by
 have e:∀ (xs:List Nat) (s:List Int),xs.foldl (M.freeStep ss) s=s ++ (xs.filter fun (i:Nat)=>decide (M.many ss (i:Int)=0)).map fun (i:Nat)=>(i:Int):=by
  intro xs
  induction xs with
  | nil=>intro s; simp
  | cons x xs ih =>
   intro s
   rw [List.foldl_cons,ih,List.filter_cons]
   unfold M.freeStep
   cases decide (M.many ss (x:Int)=0) <;> simp
 unfold M.free
 rw [e]; simp
theorem freeStep_len {ss:List DSlot} {s:List Int} {i n:Nat} (h:s.length≤n):(M.freeStep ss s i).length≤n+1:=by
 unfold M.freeStep; cases decide (M.many ss (i:Int)=0) <;> simp <;> omega
theorem free_len {ss:List DSlot}:(M.free ss).length≤20:=by
 rw [free_iff,List.length_map]
 have:=List.length_filter_le (fun (i:Nat)=>decide (M.many ss (i:Int)=0)) (List.range 20)
 simpa using this
theorem used_s {h:DHost} (hs:SmallH h) (hk:HOk h):F_spec_l4Used h=some (M.takers (M.slots h.Guests)):=by
 have h3:=hk.three
 have hall:=hk.all
 have hin:∀ (k:Nat) (g:DGuest) (xs:List Int) (h1:(k:Int)<(h.Guests.length:Int)) (h2:g ∈ h.Guests) (h3:h.Guests.getD k default=g) (h4:Tl (8*k) xs),
  iter (F_spec_l4Used_l4 h (xs,(k:Int))) (xs,0)=some (.ret (.go (g.Pages.foldl M.bump xs)))∧Tl (8*k+g.Pages.length) (g.Pages.foldl M.bump xs):=by
  intro k g xs h1 h2 h3 h4
  obtain ⟨g1,g2⟩:=guest_slots (List.all_eq_true.1 hall g h2)
  exact fold_loop (xs:=g.Pages) (step:=F_spec_l4Used_l4 h (xs,(k:Int))) (fun s j=>(s,j)) M.bump (fun s=>.go s) (fun j s=>Tl (8*k+j) s) (fun j x s a1 a2 a3 a4=>by
   have hx:=List.all_eq_true.1 g1 x a2
   have hr:=slot_range hx
   have hl:=a4.len
   refine ⟨?_,a4.bump hx⟩
   simp only [F_spec_l4Used_l4,Int.toNat_natCast,h3,decide_eq_true a1,cond_true]
   rw [grd_t ⟨by omega,h1⟩,grd_t ⟨by omega,h1⟩,grd_t ⟨by omega,a1⟩,a3]
   unfold M.bump
   by_cases e:x.Frame = -1
   · rw [decide_eq_false (p:=(0:Int)≤x.Frame) (by omega),decide_eq_true e]
     simp only [cond_true,cond_false,Option.bind_some,JO.run,F_spec_l4Used_j5]
     rw [w64_in (by omega) (by omega)]
   · have q1:=a4.low x.Frame.toNat (by omega)
     have q2:=a4.top x.Frame.toNat (by omega)
     rw [decide_eq_true (p:=(0:Int)≤x.Frame) (by omega),decide_eq_false e,cond_true,grd_t ⟨by omega,by omega⟩,grd_t ⟨by omega,by omega⟩,w64_in (by omega) (by omega)]
     simp only [cond_true,cond_false,Option.bind_some,JO.run,F_spec_l4Used_j5]
     rw [w64_in (by omega) (by omega)]) (fun s _=>by
   simp only [F_spec_l4Used_l4,Int.toNat_natCast,h3]; rw [grd_t ⟨by omega,h1⟩,decide_eq_false (by omega),cond_false]) xs h4
 have key:=(fold_loop (xs:=h.Guests) (step:=F_spec_l4Used_l2 h) (fun s j=>(s,j)) (fun s g=>g.Pages.foldl M.bump s) (fun s=>.go s) (fun k s=>Tl (8*k) s) (fun k g s a1 a2 a3 a4=>by
  obtain ⟨b1,b2⟩:=hin k g s a1 a2 a3 a4
  refine ⟨?_,b2.mono (by have:=(guest_slots (List.all_eq_true.1 hall g a2)).2; omega)⟩
  simp only [F_spec_l4Used_l2,decide_eq_true a1,cond_true]
  rw [b1]
  simp only [Option.bind_some,LO.val,JO.run,F_spec_l4Used_j3]
  rw [w64_in (by omega) (by omega)]) (fun s _=>by
  simp only [F_spec_l4Used_l2]; rw [decide_eq_false (by omega),cond_false]) (List.replicate 20 0) (Tl.zero.mono (by omega))).1
 unfold F_spec_l4Used
 rw [show Int.toNat (20:Int)=20 from rfl,key]
 simp only [Option.bind_some,LO.val,JO.run,F_spec_l4Used_j1]
 rw [foldl_flatMap']; rfl
theorem free_step {ss:List DSlot} (hss:ss.all M.slotOk=true) {i:Nat} (hi:i<20) {s:List Int} (hl:s.length≤i) {Y:Type} :
 (grd ((0:Int)≤(i:Int)∧(i:Int)<(((List.length (M.takers ss)):Nat):Int)) (cond (decide ((List.getD (M.takers ss) i default)=(0:Int))) (grd ((List.length s+List.length ([(i:Int)]:List Int))*8≤2 ^ 47∧List.length s+List.length ([(i:Int)]:List Int)≤2 ^ 47) (some (JO.go (s ++ ([(i:Int)]:List Int))))) (some (JO.go s))):Option (JO (List Int) Y))=some (.go (M.freeStep ss s i)):=by
 have hl2:=takers_len hss
 have e0:decide ((M.takers ss).getD i default=0)=decide (M.many ss (i:Int)=0):=by rw [decide_eq_decide,takers_get hss hi]; omega
 rw [grd_t ⟨by omega,by omega⟩,e0]
 unfold M.freeStep
 cases decide (M.many ss (i:Int)=0) with
 | true=>rw [cond_true,cond_true,grd_t ⟨by simp; omega,by simp; omega⟩]
 | false=>rfl
theorem freeFrames_i {gs:List DGuest} (hl:gs.length≤1048576) (h:gs.all M.guestOk=true):F_impl_freeFrames gs=some (M.free (M.slots gs)):=by
 have hss:=all_slots h
 have hl2:=takers_len hss
 unfold F_impl_freeFrames
 rw [takers_i hl h,Option.bind_some]
 have key:=(count_loop (n:=20) (step:=F_impl_freeFrames_l3 (M.takers (M.slots gs))) (fun s j=>(s,j)) (M.freeStep (M.slots gs)) (fun s=>JO.go s) (fun i s=>s.length≤i) (fun i s hi hs=>by
  refine ⟨?_,freeStep_len hs⟩
  simp only [F_impl_freeFrames_l3,Int.toNat_natCast]
  rw [decide_eq_true (p:=(i:Int)<_) (by omega),cond_true,free_step hss hi hs,Option.bind_some]
  simp only [JO.run,F_impl_freeFrames_j4]
  rw [w64_in (by omega) (by omega)]) (fun s _=>by
  simp only [F_impl_freeFrames_l3]; rw [decide_eq_false (by omega),cond_false]) [] (by simp)).1
 rw [key]; rfl
theorem hostFree_s {h:DHost} (hs:SmallH h):F_spec_HostFree h=some (M.hostFree h):=by
 unfold F_spec_HostFree M.hostFree
 rw [hostOk_s hs,Option.bind_some]
 cases hh:M.hostOk h with
 | false=>rfl
 | true =>
  have hk:=hOk_iff.1 hh
  have hss:=all_slots hk.all
  rw [Bool.not_true,cond_false,used_s hs hk,Option.bind_some]
  have key:=(count_loop (n:=20) (step:=F_spec_HostFree_l4 (M.takers (M.slots h.Guests))) (fun s j=>(s,j)) (M.freeStep (M.slots h.Guests)) (fun s=>JO.go s) (fun i s=>s.length≤i) (fun i s hi hs=>by
   refine ⟨?_,freeStep_len hs⟩
   simp only [F_spec_HostFree_l4,Int.toNat_natCast]
   rw [decide_eq_true (p:=(i:Int)<20) (by omega),cond_true,free_step hss hi hs,Option.bind_some]
   simp only [JO.run,F_spec_HostFree_j5]
   rw [w64_in (by omega) (by omega)]) (fun s _=>by
   simp only [F_spec_HostFree_l4]; rfl) [] (by simp)).1
  rw [key]; rfl
end Go.Proofs.Ytlikfpmbcdlnjaa
namespace Go.Proofs.Ytlikfpmbcdlnjaa
set_option linter.all false
namespace M
noncomputable def there (h:DHost) (g:Int):Bool:=hostOk h && (inR 0 2 g && (h.Guests.getD g.toNat default).Live)
end M
end Go.Proofs.Ytlikfpmbcdlnjaa
namespace Go.Proofs.Ytlikfpmbcdlnjaa
set_option linter.all false
theorem over_all {T:Type} {xs ys:List T} (h:xs.length=ys.length):over xs 0 xs.length ys=ys:=by
 simp only [over,h,Nat.min_self,List.take_length,Nat.zero_add,List.take_zero,List.nil_append]
 rw [List.drop_eq_nil_of_le (by omega),List.append_nil]
theorem copied_eq {xs:List Int} (h:xs.length≤1048576):F_impl_copied xs=some xs:=by
 unfold F_impl_copied
 rw [grd_t ⟨by omega,by omega,by omega⟩,over_all (by simp)]
theorem core_s {c:DCore} (h:SmallC c):F_spec_l3Core c=some c:=by
 have:=h.regs
 unfold F_spec_l3Core
 rw [grd_t ⟨by simp; omega,by simp; omega⟩]; rfl
end Go.Proofs.Ytlikfpmbcdlnjaa
namespace Go.Proofs.Ytlikfpmbcdlnjaa
set_option linter.all false
theorem over_len3 {xs ys:List Int} {o k:Nat} (ho:o+k≤xs.length):(over xs o k ys).length=xs.length:=over_len2 ho
theorem page_len {xs:List Int} {o:Nat} (h:o+8≤xs.length):((xs.drop o).take 8).length=8:=by simp; omega
namespace M
def word (ws:List Int) (ps:List DSlot) (a:Nat):Int:=if (ps.getD (a / 8) default).Frame<0 then 0 else ws.getD ((ps.getD (a / 8) default).Frame.toNat*8+a % 8) default
def mem (ws:List Int) (ps:List DSlot):List Int:=(List.range 64).map (word ws ps)
def page (ws:List Int) (f:Nat):List Int:=(ws.drop (f*8)).take 8
end M
theorem pageOf_i {xs:List Int} {f:Int} (h0:0≤f) (h1:f*8+8≤xs.length) (h2:f≤1000000):F_impl_pageOf xs f=some (M.page xs f.toNat):=by
 unfold F_impl_pageOf M.page
 rw [w64_in (z:=f*8) (by omega) (by omega),w64_in (z:=f+1) (by omega) (by omega),w64_in (z:=(f+1)*8) (by omega) (by omega),grd_t ⟨by omega,by omega,by omega⟩]
 rw [show Int.toNat ((f+1)*8) - Int.toNat (f*8)=8 by omega,show Int.toNat (f*8)=f.toNat*8 by omega]
theorem pageOf_p {xs:List Int} {f:Int} (h0:0≤f) (h1:f*8+8≤xs.length) (h2:f≤1000000):F_impl_pageOf_p xs f=some (xs,(f.toNat*8,8)):=by
 unfold F_impl_pageOf_p
 rw [w64_in (z:=f*8) (by omega) (by omega),w64_in (z:=f+1) (by omega) (by omega),w64_in (z:=(f+1)*8) (by omega) (by omega),grd_t ⟨by omega,by omega,by omega⟩]
 rw [show Int.toNat ((f+1)*8) - Int.toNat (f*8)=8 by omega,show Int.toNat (f*8)=f.toNat*8 by omega]
theorem copiedBare_eq {b:DBare} (hs:SmallB b):F_impl_copiedBare b=some b:=by
 unfold F_impl_copiedBare
 rw [copied_eq hs.c.regs,copied_eq hs.mem,copied_eq hs.i,copied_eq hs.o]; rfl
structure Live (h : DHost) (g : Int) (x : DGuest) : Prop where
 small:SmallG x
 ok:HOk h
 lo:0≤g
 hi:g≤2
 at_:h.Guests.getD g.toNat default=x
 live:x.Live=true
 core:M.coreOk x.C=true
 pages:x.Pages.length=8
 slots:x.Pages.all M.slotOk=true
 inn:M.rowOk x.In=true
 out:M.rowOk x.Out=true
end Go.Proofs.Ytlikfpmbcdlnjaa
namespace Go.Proofs.Ytlikfpmbcdlnjaa
set_option linter.all false
theorem copiedSlots_eq {xs:List DSlot} (h:xs.length≤1048576):F_impl_copiedSlots xs=some xs:=by
 unfold F_impl_copiedSlots
 rw [grd_t ⟨by omega,by omega,by omega⟩,over_all (by simp)]
theorem gone_eq {g:DGuest} (h:M.guestOk g=true) (hl:g.Live=false):g=M.noGuest:=by
 unfold M.guestOk at h
 rw [hl,cond_false,decide_eq_true_eq] at h; exact h
theorem copiedGuest_eq {g:DGuest} (hs:SmallG g) (h:M.guestOk g=true):F_impl_copiedGuest g=some g:=by
 unfold F_impl_copiedGuest
 cases hl:g.Live with
 | false =>
  have:=gone_eq h hl
  subst this; rfl
 | true =>
  rw [Bool.not_true,cond_false,copied_eq hs.c.regs,copiedSlots_eq hs.pages,copied_eq hs.i,copied_eq hs.o]
  simp only [Option.bind_some]
  rw [← hl]
theorem guest_s {g:DGuest} (hs:SmallG g) (h:M.guestOk g=true):F_spec_l4Guest g=some g:=by
 have:=hs.pages; have:=hs.i; have:=hs.o
 unfold F_spec_l4Guest
 cases hl:g.Live with
 | false =>
  have:=gone_eq h hl
  subst this; rfl
 | true =>
  rw [Bool.not_true,cond_false,core_s hs.c,Option.bind_some,grd_t ⟨by omega,by omega⟩,grd_t ⟨by omega,by omega⟩,grd_t ⟨by omega,by omega⟩,← hl]
theorem copiedGuests_eq {gs:List DGuest} (hl:gs.length≤1048576) (hs:∀ g ∈ gs,SmallG g) (h:gs.all M.guestOk=true):F_impl_copiedGuests gs=some gs:=by
 unfold F_impl_copiedGuests
 rw [grd_t ⟨by omega,by omega,by omega⟩]
 have key:=copy_loop (xs:=gs) (ys:=List.replicate (Int.toNat (gs.length:Int)) M.noGuest) (step:=F_impl_copiedGuests_l2 gs) (by simp) (fun k zs hk hz=>by
  have h1:(k:Int)<(gs.length:Int):=by omega
  simp only [F_impl_copiedGuests_l2,decide_eq_true h1,cond_true]
  rw [grd_t ⟨by omega,h1⟩,Int.toNat_natCast]
  show Option.bind (F_impl_copiedGuest (gs.getD k default)) _=_
  rw [copiedGuest_eq (hs _ (getD_mem hk)) (List.all_eq_true.1 h _ (getD_mem hk)),Option.bind_some,grd_t ⟨by omega,by omega⟩,w64_in (by omega) (by omega)]) (fun zs hz=>by
  simp only [F_impl_copiedGuests_l2]
  rw [decide_eq_false (by omega),cond_false])
 show Option.bind (Option.bind (iter (F_impl_copiedGuests_l2 gs) (List.replicate (Int.toNat (gs.length:Int)) M.noGuest,0)) LO.val) _=_
 rw [key]; rfl
theorem copy_s {h:DHost} (hs:SmallH h) (hg:h.Guests.all M.guestOk=true):F_spec_l4Copy h=some h:=by
 have:=hs.words
 have:=hs.guests
 unfold F_spec_l4Copy
 rw [grd_t ⟨by simp; omega,by simp; omega⟩]
 have key:=(fold_loop (xs:=h.Guests) (step:=F_spec_l4Copy_l2 h) (fun s j=>(s,j)) (fun s g=>s ++ [g]) (fun s=>JO.go s) (fun j s=>s.length=j) (fun k g s a1 a2 a3 a4=>by
  refine ⟨?_,by simp; omega⟩
  simp only [F_spec_l4Copy_l2,decide_eq_true a1,cond_true,Int.toNat_natCast,a3]
  rw [grd_t ⟨by omega,a1⟩]
  show Option.bind (F_spec_l4Guest g) _=_
  rw [guest_s (hs.all g a2) (List.all_eq_true.1 hg g a2),Option.bind_some,grd_t ⟨by omega,by omega⟩,w64_in (by omega) (by omega)]) (fun s _=>by
  simp only [F_spec_l4Copy_l2]; rw [decide_eq_false (by omega),cond_false]) [] rfl).1
 rw [key]
 have e:∀ (xs ys:List DGuest),xs.foldl (fun s g=>s ++ [g]) ys=ys ++ xs:=by
  intro xs
  induction xs with
  | nil=>intro ys; simp
  | cons x xs ih=>intro ys; rw [List.foldl_cons,ih]; simp
 rw [e]; rfl
namespace M
end M
theorem withGuest_i {h:DHost} {g:Int} {x:DGuest} (hs:SmallH h) (hk:HOk h) (h0:0≤g) (h1:g≤2):F_impl_withGuest h.Guests g x=some (h.Guests.set g.toNat x):=by
 have:=hk.three
 unfold F_impl_withGuest
 rw [copiedGuests_eq hs.guests hs.all hk.all,Option.bind_some,grd_t ⟨by omega,by omega⟩]
end Go.Proofs.Ytlikfpmbcdlnjaa
namespace Go.Proofs.Ytlikfpmbcdlnjaa
set_option linter.all false
namespace M
def zeros (xs:List Int):Bool:=(List.range 8).all fun k=>decide (xs.getD k default=0)
def used (mem:List Int):Nat→Nat
 | 0=>0
 | p+1=>used mem p+(bif zeros (page mem p) then 0 else 1)
def slotFor (mem free:List Int) (p:Nat):DSlot:=bif zeros (page mem p) then ⟨-1,false,false⟩ else ⟨free.getD (used mem p) default,true,false⟩
def slotsFor (mem free:List Int) (n:Nat):List DSlot:=(List.range n).map (slotFor mem free)
def wordsFor (mem free:List Int) (ws:List Int):Nat→List Int
 | 0=>ws
 | p+1=>bif zeros (page mem p) then wordsFor mem free ws p else over (wordsFor mem free ws p) ((free.getD (used mem p) default).toNat*8) 8 (page mem p)
noncomputable def gone (gs:List DGuest):Int:=bif (gs.getD 0 default).Live then (bif (gs.getD 1 default).Live then (bif (gs.getD 2 default).Live then -1 else 2) else 1) else 0
noncomputable def booted (h:DHost) (b:DBare):DHost:=⟨wordsFor b.Mem (free (slots h.Guests)) h.Words 8,h.Guests.set (gone h.Guests).toNat ⟨true,b.C,slotsFor b.Mem (free (slots h.Guests)) 8,b.In,b.Out⟩⟩
noncomputable def hostBoot (h:DHost) (b:DBare):DHost × Int × Bool:=bif hostOk h && bareOk b && (!decide (gone h.Guests = -1) && decide (used b.Mem 8≤(free (slots h.Guests)).length)) then (booted h b,gone h.Guests,true) else (⟨[],[]⟩,-1,false)
end M
theorem used_mono {mem:List Int} {p q:Nat} (h:p≤q):M.used mem p≤M.used mem q:=by
 induction h with
 | refl=>exact Nat.le_refl _
 | step _ ih=>exact Nat.le_trans ih (by rw [M.used]; omega)
theorem used_le {mem:List Int} {p:Nat}:M.used mem p≤p:=by
 induction p with
 | zero=>exact Nat.le_refl _
 | succ p ih=>rw [M.used]; cases M.zeros (M.page mem p) <;> simp <;> omega
theorem enough_iff {mem:List Int} {L n:Nat}:((List.range n).all fun p=>M.zeros (M.page mem p) || decide (M.used mem p<L))=decide (M.used mem n≤L):=by
 apply dbe
 simp only [List.all_eq_true,List.mem_range,Bool.or_eq_true,decide_eq_true_eq]
 constructor
 · intro h
   induction n with
   | zero=>simp [M.used]
   | succ n ih =>
    have h1:=ih fun p hp=>h p (by omega)
    rcases h n (by omega) with h2 | h2
    · rw [M.used,h2]; exact h1
    · rw [M.used]; cases M.zeros (M.page mem n) <;> simp <;> omega
 · intro h p hp
   cases hz:M.zeros (M.page mem p) with
   | true=>exact .inl rfl
   | false =>
    have:=used_mono (mem:=mem) (show p+1≤n by omega)
    rw [M.used,hz] at this
    simp only [cond_false] at this
    exact .inr (by omega)
theorem free_range {ss:List DSlot} {i:Nat} (hi:i<(M.free ss).length):0≤(M.free ss).getD i default∧(M.free ss).getD i default<20:=by
 have hm:=getD_mem hi
 rw [free_iff] at hm
 obtain ⟨j,hj,e⟩:=List.mem_map.1 hm
 have:=(List.mem_filter.1 hj).1
 rw [List.mem_range] at this
 rw [free_iff,← e]; omega
theorem page8 {xs:List Int} {p:Nat} (h:p*8+8≤xs.length):(M.page xs p).length=8:=page_len h
theorem allZeros_i {xs:List Int} (h:xs.length=8):F_impl_allZeros xs=some (M.zeros xs):=by
 unfold F_impl_allZeros M.zeros
 have key:=walk_loop (n:=8) (step:=F_impl_allZeros_l2 xs) (fun i=>(i:Int)) (fun k=>decide (xs.getD k default=0)) (JO.go ()) (.out false) (fun i hi _=>by
  simp only [F_impl_allZeros_l2,Int.toNat_natCast]
  rw [decide_eq_true (p:=(i:Int)<_) (by omega),cond_true,grd_t ⟨by omega,by omega⟩,w64_in (by omega) (by omega)]
  cases decide (xs.getD i default=0) <;> rfl) (fun _=>by
  simp only [F_impl_allZeros_l2]; rw [decide_eq_false (by omega),cond_false])
 show Option.bind (Option.bind (iter (F_impl_allZeros_l2 xs) ((0:Nat):Int)) LO.val) _=_
 rw [key]
 cases (List.range 8).all fun k=>decide (xs.getD k default=0) <;> rfl
theorem set_app {T:Type} {n:Nat} {f:Nat→T} {z x:T} {p:Nat} (hp:p<n) (hx:x=f p):((List.range p).map f ++ List.replicate (n - p) z).set p x=(List.range (p+1)).map f ++ List.replicate (n - (p+1)) z:=by
 rw [List.set_append_right _ _ (by simp),show n - p=(n - (p+1))+1 by omega,List.replicate_succ]
 simp [List.range_succ,hx]
theorem slotsFor_i {mem free:List Int} (hm:mem.length=64) (hf:free.length≤20):F_impl_slotsFor mem free=some (bif decide (M.used mem 8≤free.length) then (M.slotsFor mem free 8,true) else ([],false)):=by
 unfold F_impl_slotsFor
 have key:=walk_loop (n:=8) (step:=F_impl_slotsFor_l2 mem free) (fun p=>(M.slotsFor mem free p ++ List.replicate (8 - p) ⟨0,false,false⟩,(M.used mem p:Int),(p:Int))) (fun p=>M.zeros (M.page mem p) || decide (M.used mem p<free.length)) (JO.go (M.slotsFor mem free 8)) (.out ([],false)) (fun i hi _=>by
  have hu:=used_le (mem:=mem) (p:=i)
  have hl:(M.slotsFor mem free i ++ List.replicate (8 - i) (⟨0,false,false⟩:DSlot)).length=8:=by simp [M.slotsFor]; omega
  simp only [F_impl_slotsFor_l2,Int.toNat_natCast]
  rw [decide_eq_true (p:=(i:Int)<_) (by simp; omega),cond_true,pageOf_i (by omega) (by omega) (by omega),Option.bind_some,Int.toNat_natCast,allZeros_i (page8 (by omega)),Option.bind_some]
  have eu:M.used mem (i+1)=M.used mem i+(bif M.zeros (M.page mem i) then 0 else 1):=rfl
  cases hz:M.zeros (M.page mem i) with
  | true =>
   rw [hz] at eu
   simp only [cond_true,Nat.add_zero] at eu
   rw [cond_true,grd_t ⟨by omega,by omega⟩]
   simp only [Option.bind_some,JO.run,F_impl_slotsFor_j3,Bool.true_or,cond_true,eu]
   rw [w64_in (by omega) (by omega)]
   have:(⟨-1,false,false⟩:DSlot)=M.slotFor mem free i:=by unfold M.slotFor; rw [hz]; rfl
   rw [show M.slotsFor mem free i=(List.range i).map (M.slotFor mem free) from rfl,set_app hi this]; rfl
  | false =>
   rw [hz] at eu
   simp only [cond_false] at eu
   rw [cond_false,Bool.false_or]
   by_cases e:M.used mem i<free.length
   · rw [decide_eq_true e,decide_eq_false (p:=(M.used mem i:Int)=_) (by omega),cond_false,grd_t ⟨by omega,by omega⟩,grd_t ⟨by omega,by omega⟩]
     simp only [Option.bind_some,JO.run,F_impl_slotsFor_j3,cond_true,eu]
     rw [w64_in (z:=(M.used mem i:Int)+1) (by omega) (by omega),w64_in (by omega) (by omega)]
     have:(⟨free.getD (M.used mem i) default,true,false⟩:DSlot)=M.slotFor mem free i:=by unfold M.slotFor; rw [hz]; rfl
     rw [show M.slotsFor mem free i=(List.range i).map (M.slotFor mem free) from rfl,set_app hi this]; rfl
   · have:=‹∀ j,j<i→_›
     have h2:((List.range i).all fun p=>M.zeros (M.page mem p) || decide (M.used mem p<free.length))=true:=by simp only [List.all_eq_true,List.mem_range]; exact this
     rw [enough_iff,decide_eq_true_eq] at h2
     rw [decide_eq_false e,decide_eq_true (p:=(M.used mem i:Int)=_) (by omega)]; rfl) (fun _=>by
  simp only [F_impl_slotsFor_l2]; rw [decide_eq_false (by simp),cond_false]; simp)
 rw [enough_iff] at key
 rw [show ((List.replicate (Int.toNat (8:Int)) (DSlot.mk (0:Int) false false)),(0:Int),(0:Int))=(M.slotsFor mem free 0 ++ List.replicate (8 - 0) ⟨0,false,false⟩,((M.used mem 0:Nat):Int),((0:Nat):Int)) from rfl,key]
 cases decide (M.used mem 8≤free.length) <;> rfl
theorem wordsFor_len {mem ws:List Int} {ss:List DSlot} (hw:ws.length=160):∀ {p:Nat},p≤8→M.used mem p≤(M.free ss).length→(M.wordsFor mem (M.free ss) ws p).length=160
 | 0,_,_=>hw
 | p+1,h8,hu=>by
  have eu:M.used mem (p+1)=M.used mem p+(bif M.zeros (M.page mem p) then 0 else 1):=rfl
  have ih:=wordsFor_len (mem:=mem) (ss:=ss) hw (p:=p) (by omega) (by omega)
  unfold M.wordsFor
  cases hz:M.zeros (M.page mem p) with
  | true=>rw [cond_true]; exact ih
  | false =>
   rw [hz] at eu
   simp only [cond_false] at eu
   have:=free_range (ss:=ss) (i:=M.used mem p) (by omega)
   rw [cond_false,over_len3 (by omega),ih]
theorem withPages_i {mem ws:List Int} {ss:List DSlot} (hm:mem.length=64) (hw:ws.length=160) (hu:M.used mem 8≤(M.free ss).length):F_impl_withPages ws (M.slotsFor mem (M.free ss) 8) mem=some (M.wordsFor mem (M.free ss) ws 8):=by
 unfold F_impl_withPages
 rw [copied_eq (by omega),Option.bind_some]
 have key:=walk_loop (n:=8) (step:=F_impl_withPages_l3 (M.slotsFor mem (M.free ss) 8) mem) (fun p=>(M.wordsFor mem (M.free ss) ws p,(p:Int))) (fun _=>true) (JO.go (M.wordsFor mem (M.free ss) ws 8)) (.out []) (fun i hi _=>by
  have hmo:=used_mono (mem:=mem) (show i+1≤8 by omega)
  have eu:M.used mem (i+1)=M.used mem i+(bif M.zeros (M.page mem i) then 0 else 1):=rfl
  have hlen:=wordsFor_len (mem:=mem) (ss:=ss) hw (p:=i) (by omega) (by omega)
  have hg:(M.slotsFor mem (M.free ss) 8).getD i default=M.slotFor mem (M.free ss) i:=by rw [getD_lt (by simpa [M.slotsFor] using hi)]; simp [M.slotsFor]
  have hl8:(M.slotsFor mem (M.free ss) 8).length=8:=by simp [M.slotsFor]
  simp only [F_impl_withPages_l3,Int.toNat_natCast]
  have e0:decide (((M.slotsFor mem (M.free ss) 8).getD i default).Frame = -1)=decide ((M.slotFor mem (M.free ss) i).Frame = -1):=by rw [hg]
  rw [decide_eq_true (p:=(i:Int)<_) (by omega),cond_true,grd_t ⟨by omega,by omega⟩,e0,hg,cond_true]
  have ew:M.wordsFor mem (M.free ss) ws (i+1)=(bif M.zeros (M.page mem i) then M.wordsFor mem (M.free ss) ws i else over (M.wordsFor mem (M.free ss) ws i) (((M.free ss).getD (M.used mem i) default).toNat*8) 8 (M.page mem i)):=rfl
  cases hz:M.zeros (M.page mem i) with
  | true =>
   have:M.slotFor mem (M.free ss) i=⟨-1,false,false⟩:=by unfold M.slotFor; rw [hz]; rfl
   rw [hz,cond_true] at ew
   rw [this,decide_eq_true rfl,ew]
   simp only [Bool.not_true,cond_false,Option.bind_some,JO.run,F_impl_withPages_j4]
   rw [w64_in (by omega) (by omega)]; rfl
  | false =>
   have:M.slotFor mem (M.free ss) i=⟨(M.free ss).getD (M.used mem i) default,true,false⟩:=by unfold M.slotFor; rw [hz]; rfl
   rw [hz,cond_false] at ew
   rw [hz] at eu
   simp only [cond_false] at eu
   have hr:=free_range (ss:=ss) (i:=M.used mem i) (by omega)
   rw [this,ew,decide_eq_false (by simp only []; omega),Bool.not_false,cond_true,pageOf_p (by simp only []; omega) (by simp only []; omega) (by simp only []; omega),Option.bind_some,grd_t rfl,grd_t (by simp only []; omega),pageOf_i (by omega) (by omega) (by omega),Option.bind_some,Int.toNat_natCast]
   simp only [Option.bind_some,JO.run,F_impl_withPages_j4]
   rw [w64_in (by omega) (by omega)]; rfl) (fun _=>by
  simp only [F_impl_withPages_l3]; rw [decide_eq_false (by simp [M.slotsFor]),cond_false])
 rw [show ((ws,(0:Int)):List Int × Int)=(M.wordsFor mem (M.free ss) ws 0,((0:Nat):Int)) from rfl,key,show (List.range 8).all (fun _=>true)=true by simp]
 simp only [cond_true,Option.bind_some,LO.val,JO.run,F_impl_withPages_j2]
theorem firstGone_i {gs:List DGuest} (h:gs.length=3):F_impl_firstGone gs=some (M.gone gs):=by
 unfold F_impl_firstGone
 have st:∀ i:Nat,i<3→F_impl_firstGone_l2 gs (i:Int)=some (bif (gs.getD i default).Live then .next (((i+1:Nat):Int)) else .ret (.out (i:Int))):=fun i hi=>by
  simp only [F_impl_firstGone_l2,Int.toNat_natCast]
  rw [decide_eq_true (p:=(i:Int)<_) (by omega),cond_true,grd_t ⟨by omega,by omega⟩,w64_in (by omega) (by omega)]
  cases (gs.getD i default).Live <;> rfl
 have s3:F_impl_firstGone_l2 gs ((3:Nat):Int)=some (.ret (.go ())):=by
  simp only [F_impl_firstGone_l2]
  rw [decide_eq_false (by omega),cond_false]
 have s0:=st 0 (by omega)
 have s1:=st 1 (by omega)
 have s2:=st 2 (by omega)
 unfold M.gone
 rw [show (0:Int)=((0:Nat):Int) from rfl,iter_eq,s0]
 cases (gs.getD 0 default).Live with
 | false=>rfl
 | true =>
  simp only [cond_true]
  rw [show ((0+1:Nat))=1 from rfl,iter_eq,s1]
  cases (gs.getD 1 default).Live with
  | false=>rfl
  | true =>
   simp only [cond_true]
   rw [show ((1+1:Nat))=2 from rfl,iter_eq,s2]
   cases (gs.getD 2 default).Live with
   | false=>rfl
   | true =>
    simp only [cond_true]
    rw [show ((2+1:Nat))=3 from rfl,iter_eq,s3]; rfl
theorem gone_range (gs:List DGuest):-1≤M.gone gs∧M.gone gs≤2:=by
 unfold M.gone
 cases (gs.getD 0 default).Live <;> cases (gs.getD 1 default).Live <;> cases (gs.getD 2 default).Live <;> simp
theorem bOk_parts {b:DBare} (h:M.bareOk b=true):b.Mem.length=64:=by
 unfold M.bareOk at h
 simp only [Bool.and_eq_true] at h
 exact memOk_len h.1.1.2
theorem hostBoot_i {h:DHost} {b:DBare} (hs:SmallH h) (hb:SmallB b):F_impl_HostBoot h b=some (M.hostBoot h b):=by
 unfold F_impl_HostBoot M.hostBoot
 rw [hostOk_i hs,Option.bind_some]
 cases hh:M.hostOk h with
 | false=>rfl
 | true =>
  have hk:=hOk_iff.1 hh
  rw [Bool.not_true,cond_false,bareOk_i hb,Option.bind_some,Bool.true_and]
  cases hbk:M.bareOk b with
  | false=>rfl
  | true =>
   have hm:=bOk_parts hbk
   have hr:=gone_range h.Guests
   rw [Bool.not_true,cond_false,firstGone_i hk.three,Option.bind_some,freeFrames_i hs.guests hk.all,Option.bind_some,slotsFor_i hm free_len,Option.bind_some,Bool.true_and]
   by_cases e:M.gone h.Guests = -1
   · rw [decide_eq_true e]; rfl
   · rw [decide_eq_false e,cond_false,Bool.not_false,Bool.true_and]
     by_cases e2:M.used b.Mem 8≤(M.free (M.slots h.Guests)).length
     · rw [decide_eq_true e2]
       simp only [cond_true,Bool.not_true,cond_false]
       rw [copiedBare_eq hb,Option.bind_some,withPages_i hm hk.len e2,Option.bind_some,withGuest_i hs hk (by omega) (by omega)]; rfl
     · rw [decide_eq_false e2]; rfl
end Go.Proofs.Ytlikfpmbcdlnjaa
namespace Go.Proofs.Ytlikfpmbcdlnjaa
set_option linter.all false
theorem over_min {T:Type} {xs ys:List T} {o k:Nat} (h:ys.length=8) (hk:8≤k):over xs o k ys=over xs o 8 ys:=by
 simp only [over,h]
 rw [Nat.min_eq_right hk,Nat.min_self]
theorem drop_get {T:Type} [Inhabited T] {xs:List T} {u:Nat}:(xs.drop u).getD 0 default=xs.getD u default:=by simp [List.getD]
theorem drop_next {T:Type} {xs:List T} {u n:Nat} (h:n=(xs.drop u).length):List.take (Int.toNat (n:Int) - Int.toNat 1) (List.drop (Int.toNat 1) (xs.drop u))=xs.drop (u+1):=by
 rw [show Int.toNat 1=1 from rfl,List.drop_drop,Int.toNat_natCast]
 apply List.take_of_length_le
 rw [h]; simp; omega
theorem page_term {mem:List Int} {p:Nat} (h:p<8):List.take (Int.toNat (w64 ((w64 ((p:Int)+1))*8)) - Int.toNat (w64 ((p:Int)*8))) (List.drop (Int.toNat (w64 ((p:Int)*8))) mem)=M.page mem p:=by
 rw [w64_in (z:=(p:Int)+1) (by omega) (by omega),w64_in (z:=((p:Int)+1)*8) (by omega) (by omega),w64_in (z:=(p:Int)*8) (by omega) (by omega)]
 rw [show Int.toNat (((p:Int)+1)*8) - Int.toNat ((p:Int)*8)=8 by omega,show Int.toNat ((p:Int)*8)=p*8 by omega]; rfl
theorem gone_s {h:DHost} (hk:HOk h):iter (F_spec_HostBoot_l13 h) (-1,2)=some (.ret (.go (M.gone h.Guests))):=by
 have h3:=hk.three
 have st:∀ (i:Nat) (a:Int),i<3→F_spec_HostBoot_l13 h (a,(i:Int))=some (.next (bif (h.Guests.getD i default).Live then a else (i:Int),(i:Int) - 1)):=fun i a hi=>by
  simp only [F_spec_HostBoot_l13,Int.toNat_natCast]
  rw [decide_eq_true (p:=(0:Int)≤(i:Int)) (by omega),cond_true,grd_t ⟨by omega,by omega⟩]
  cases (h.Guests.getD i default).Live
  all_goals
   simp only [Bool.not_true,Bool.not_false,cond_true,cond_false,Option.bind_some,JO.run,F_spec_HostBoot_j14]
   rw [w64_in (by omega) (by omega)]
 have sn:∀ a:Int,F_spec_HostBoot_l13 h (a,-1)=some (.ret (.go a)):=fun a=>by
  simp only [F_spec_HostBoot_l13]; rfl
 rw [show (2:Int)=((2:Nat):Int) from rfl,iter_eq,st 2 _ (by omega)]
 simp only
 rw [show (((2:Nat):Int)) - 1=((1:Nat):Int) from rfl,iter_eq,st 1 _ (by omega)]
 simp only
 rw [show (((1:Nat):Int)) - 1=((0:Nat):Int) from rfl,iter_eq,st 0 _ (by omega)]
 simp only
 rw [show (((0:Nat):Int)) - 1 = -1 from rfl,iter_eq,sn]
 unfold M.gone
 cases (h.Guests.getD 0 default).Live <;> cases (h.Guests.getD 1 default).Live <;> cases (h.Guests.getD 2 default).Live <;> rfl
theorem zero_loop {b:DBare} {s:List Int × List Int × List DSlot × Int} {p:Nat} (hp:p<8) (hs:s.2.2.2=(p:Int)) (hm:b.Mem.length=64):iter (F_spec_HostBoot_l11 b s) (true,0)=some (.ret (.go (M.zeros (M.page b.Mem p)))):=by
 have hl:=page8 (xs:=b.Mem) (p:=p) (by omega)
 have key:=walk_loop (n:=8) (step:=F_spec_HostBoot_l11 b s) (fun k=>((List.range k).all fun j=>decide ((M.page b.Mem p).getD j default=0),(k:Int))) (fun _=>true) (JO.go (M.zeros (M.page b.Mem p))) (.go true) (fun k hk _=>by
  simp only [F_spec_HostBoot_l11,hs,page_term hp,Int.toNat_natCast]
  rw [decide_eq_true (p:=(k:Int)<8) (by omega),cond_true]
  have er:((List.range (k+1)).all fun j=>decide ((M.page b.Mem p).getD j default=0))=(((List.range k).all fun j=>decide ((M.page b.Mem p).getD j default=0)) && decide ((M.page b.Mem p).getD k default=0)):=by
   rw [List.range_succ,List.all_append]; simp
  rw [er]
  cases ((List.range k).all fun j=>decide ((M.page b.Mem p).getD j default=0)) with
  | true =>
   rw [cond_true,grd_t ⟨by omega,by omega⟩]
   simp only [Option.bind_some,JO.run,F_spec_HostBoot_j12,Bool.true_and,cond_true]
   rw [w64_in (by omega) (by omega)]; rfl
  | false =>
   simp only [cond_false,Option.bind_some,JO.run,F_spec_HostBoot_j12,Bool.false_and,cond_true]
   rw [w64_in (by omega) (by omega)]; rfl) (fun _=>by
  simp only [F_spec_HostBoot_l11]; rfl)
 rw [show (List.range 8).all (fun _=>true)=true by simp,cond_true] at key
 exact key
theorem pages_loop {b:DBare} {ws:List Int} {ss:List DSlot} {g:Int} (hg:0≤g) (hw:ws.length=160) (hm:b.Mem.length=64) :
 iter (F_spec_HostBoot_l8 b g) (ws,M.free ss,[],0)=some (.ret (bif decide (M.used b.Mem 8≤(M.free ss).length) then .go (M.wordsFor b.Mem (M.free ss) ws 8,M.slotsFor b.Mem (M.free ss) 8) else .out (⟨[],[]⟩,-1,false))):=by
 have hfl:=free_len (ss:=ss)
 have key:=walk_loop (n:=8) (step:=F_spec_HostBoot_l8 b g) (fun p=>(M.wordsFor b.Mem (M.free ss) ws p,(M.free ss).drop (M.used b.Mem p),M.slotsFor b.Mem (M.free ss) p,(p:Int))) (fun p=>M.zeros (M.page b.Mem p) || decide (M.used b.Mem p<(M.free ss).length))
  (JO.go (M.wordsFor b.Mem (M.free ss) ws 8,M.slotsFor b.Mem (M.free ss) 8)) (.out (⟨[],[]⟩,-1,false)) (fun p hp ho=>by
  have hu:M.used b.Mem p≤(M.free ss).length:=by
   have:((List.range p).all fun p=>M.zeros (M.page b.Mem p) || decide (M.used b.Mem p<(M.free ss).length))=true:=by simp only [List.all_eq_true,List.mem_range]; exact ho
   rw [enough_iff,decide_eq_true_eq] at this; exact this
  have hlen:=wordsFor_len (mem:=b.Mem) (ss:=ss) hw (p:=p) (by omega) hu
  have hpl:=page8 (xs:=b.Mem) (p:=p) (by omega)
  have hsl:(M.slotsFor b.Mem (M.free ss) p).length=p:=by simp [M.slotsFor]
  have es:M.slotsFor b.Mem (M.free ss) (p+1)=M.slotsFor b.Mem (M.free ss) p ++ [M.slotFor b.Mem (M.free ss) p]:=by simp [M.slotsFor,List.range_succ]
  have ew:M.wordsFor b.Mem (M.free ss) ws (p+1)=(bif M.zeros (M.page b.Mem p) then M.wordsFor b.Mem (M.free ss) ws p else over (M.wordsFor b.Mem (M.free ss) ws p) (((M.free ss).getD (M.used b.Mem p) default).toNat*8) 8 (M.page b.Mem p)):=rfl
  have eu:M.used b.Mem (p+1)=M.used b.Mem p+(bif M.zeros (M.page b.Mem p) then 0 else 1):=rfl
  have b1:w64 ((p:Int)*8)=(p:Int)*8:=w64_in (by omega) (by omega)
  have b2:w64 ((w64 ((p:Int)+1))*8)=((p:Int)+1)*8:=by rw [w64_in (z:=(p:Int)+1) (by omega) (by omega),w64_in (by omega) (by omega)]
  simp only [F_spec_HostBoot_l8]
  rw [decide_eq_true (p:=(p:Int)<8) (by omega),cond_true,decide_eq_true hg,cond_true,grd_t ⟨by omega,by omega,by omega⟩,zero_loop hp rfl hm]
  simp only [Option.bind_some,LO.val,JO.run,F_spec_HostBoot_j10,page_term hp]
  cases hz:M.zeros (M.page b.Mem p) with
  | true =>
   have:(⟨-1,false,false⟩:DSlot)=M.slotFor b.Mem (M.free ss) p:=by unfold M.slotFor; rw [hz]; rfl
   rw [hz,cond_true] at ew eu
   rw [cond_true,grd_t ⟨by simp; omega,by simp; omega⟩]
   simp only [Option.bind_some,JO.run,F_spec_HostBoot_j9,Bool.true_or,cond_true]
   rw [w64_in (by omega) (by omega),this,← es,ew,eu]; rfl
  | false =>
   have:(⟨(M.free ss).getD (M.used b.Mem p) default,true,false⟩:DSlot)=M.slotFor b.Mem (M.free ss) p:=by unfold M.slotFor; rw [hz]; rfl
   rw [hz,cond_false] at ew eu
   rw [cond_false,Bool.false_or]
   by_cases e:M.used b.Mem p<(M.free ss).length
   · have hr:=free_range (ss:=ss) (i:=M.used b.Mem p) e
     have hdl:((M.free ss).drop (M.used b.Mem p)).length=(M.free ss).length - M.used b.Mem p:=by simp
     rw [decide_eq_false (p:=(((List.drop (M.used b.Mem p) (M.free ss)).length:Nat):Int)=0) (by omega),cond_false,show Int.toNat (0:Int)=0 from rfl,drop_get]
     rw [w64_in (z:=(M.free ss).getD (M.used b.Mem p) default*8) (by omega) (by omega),grd_t ⟨by omega,by omega⟩,grd_t ⟨by omega,by omega,by omega⟩,grd_t ⟨by omega,by omega⟩,grd_t ⟨by simp; omega,by simp; omega⟩,grd_t ⟨by omega,by omega,by omega⟩]
     simp only [Option.bind_some,JO.run,F_spec_HostBoot_j9]
     rw [w64_in (by omega) (by omega),this,← es,drop_next rfl,over_min hpl (by omega),decide_eq_true e,ew,eu]
     rw [show Int.toNat ((M.free ss).getD (M.used b.Mem p) default*8)=((M.free ss).getD (M.used b.Mem p) default).toNat*8 by omega]; rfl
   · rw [decide_eq_false e,decide_eq_true (p:=(((List.drop (M.used b.Mem p) (M.free ss)).length:Nat):Int)=0) (by simp; omega)]; rfl) (fun _=>by
  simp only [F_spec_HostBoot_l8]; rfl)
 rw [enough_iff] at key
 exact key
theorem hostBoot_s {h:DHost} {b:DBare} (hs:SmallH h) (hb:SmallB b):F_spec_HostBoot h b=some (M.hostBoot h b):=by
 unfold F_spec_HostBoot M.hostBoot
 rw [hostOk_s hs,Option.bind_some]
 cases hh:M.hostOk h with
 | false=>rfl
 | true =>
  have hk:=hOk_iff.1 hh
  have h3:=hk.three
  rw [Bool.not_true,cond_false,bareOk_s hb,Option.bind_some,Bool.true_and]
  cases hbk:M.bareOk b with
  | false=>rfl
  | true =>
   have hm:=bOk_parts hbk
   have hr:=gone_range h.Guests
   have:=hb.i; have:=hb.o
   rw [Bool.not_true,cond_false,copy_s hs hk.all,Option.bind_some,gone_s hk,Bool.true_and]
   simp only [Option.bind_some,LO.val,JO.run,F_spec_HostBoot_j4]
   have ef:M.hostFree h=M.free (M.slots h.Guests):=by unfold M.hostFree; rw [hh]; rfl
   rw [hostFree_s hs,Option.bind_some,ef,core_s hb.c,Option.bind_some,grd_t ⟨by omega,by omega⟩,grd_t ⟨by omega,by omega⟩]
   by_cases e:M.gone h.Guests = -1
   · rw [decide_eq_true e,e]
     rw [show iter (F_spec_HostBoot_l8 b (-1)) (h.Words,M.free (M.slots h.Guests),[],0)=some (.ret (.go (h.Words,[]))) by rw [iter_eq]; rfl]
     rfl
   · rw [pages_loop (by omega) hk.len hm,decide_eq_false e,Bool.not_false,Bool.true_and]
     cases decide (M.used b.Mem 8≤(M.free (M.slots h.Guests)).length) with
     | false=>rfl
     | true =>
      simp only [cond_true,Option.bind_some,LO.val,JO.run,F_spec_HostBoot_j7]
      rw [decide_eq_false (by omega),cond_false,grd_t ⟨by omega,by omega⟩]; rfl
end Go.Proofs.Ytlikfpmbcdlnjaa
namespace Go.Proofs.Ytlikfpmbcdlnjaa
set_option linter.all false
noncomputable def mSlot (_:DSlot) (k:Int):DSlot × Int:=(⟨k,decide (Int.tmod (k+1) 3=0),decide (Int.tmod (k+1+1) 3=0)⟩,k+1+1+1)
theorem mSlot_le (x:DSlot) (k:Int):k≤(mSlot x k).2∧(mSlot x k).2≤k+3:=by simp only [mSlot]; omega
theorem w_in {z:Int} (h0:0≤z) (h1:z≤1152921504606846976):w64 z=z:=w64_in (by omega) (by omega)
theorem markSlotS_eq {xs:List DSlot} {k:Int} (h:xs.length≤1048576) (h0:0≤k) (h1:k≤4503599627370496):F_laws_markSlotS xs k=some ((marks mSlot xs k).1,(marks mSlot xs k).2):=by
 have key:=mark_loop (m:=mSlot) (C:=3) (B:=9007199254740992) (step:=F_laws_markSlotS_l2) (xs:=xs) (k:=k) (fun x _ k=>mSlot_le x k) h0 (by omega) (by omega) (fun zs i q hz hi _ hq hb=>by
  have e1:(i:Int)<(zs.length:Int):=by omega
  simp only [F_laws_markSlotS_l2,decide_eq_true e1,cond_true]
  rw [grd_t ⟨by omega,e1⟩,Int.toNat_natCast,w_in (z:=q+1) (by omega) (by omega),w_in (z:=q+1+1) (by omega) (by omega),w_in (z:=q+1+1+1) (by omega) (by omega),w_in (z:=(i:Int)+1) (by omega) (by omega)]
  rw [grd_t ⟨by omega,e1⟩,grd_t ⟨by omega,e1⟩]
  rfl) (fun zs q _=>by simp only [F_laws_markSlotS_l2]; rw [decide_eq_false (by omega),cond_false])
 unfold F_laws_markSlotS
 rw [key]; rfl
theorem heldSlotS_eq {xs:List DSlot} {k:Int} (h:xs.length≤1048576) (h0:0≤k) (h1:k≤4503599627370496):F_laws_heldSlotS (marks mSlot xs k).1 k=some (marks mSlot xs k).2:=by
 have key:=held_loop (m:=mSlot) (C:=3) (B:=9007199254740992) (step:=F_laws_heldSlotS_l2) (xs:=xs) (k:=k) (fun x _ k=>mSlot_le x k) h0 (by omega) (by omega) (fun zs i x q hz hi _ hq hb hg=>by
  have e1:(i:Int)<(zs.length:Int):=by omega
  simp only [F_laws_heldSlotS_l2,decide_eq_true e1,cond_true]
  rw [grd_t ⟨by omega,e1⟩,Int.toNat_natCast,hg,w_in (z:=q+1) (by omega) (by omega),w_in (z:=q+1+1) (by omega) (by omega),w_in (z:=q+1+1+1) (by omega) (by omega),w_in (z:=(i:Int)+1) (by omega) (by omega)]
  rw [grd_t ⟨by omega,e1⟩,grd_t ⟨by omega,e1⟩]
  simp [mSlot]) (fun zs q _=>by simp only [F_laws_heldSlotS_l2]; rw [decide_eq_false (by omega),cond_false])
 unfold F_laws_heldSlotS
 rw [key]; rfl
noncomputable def mGuest (g:DGuest) (k:Int):DGuest × Int :=
 let q:=k+1+(g.C.Regs.length:Int)
 let p:=marks mSlot g.Pages (q+1+1+1+1+1+1+1+1+1+1+1+1)
 (⟨decide (Int.tmod k 3=0),⟨upFrom (k+1) g.C.Regs.length,q,q+1,q+1+1,q+1+1+1,decide (Int.tmod (q+1+1+1+1) 3=0),q+1+1+1+1+1,q+1+1+1+1+1+1,q+1+1+1+1+1+1+1,
  decide (Int.tmod (q+1+1+1+1+1+1+1+1) 3=0),decide (Int.tmod (q+1+1+1+1+1+1+1+1+1) 3=0),decide (Int.tmod (q+1+1+1+1+1+1+1+1+1+1) 3=0),decide (Int.tmod (q+1+1+1+1+1+1+1+1+1+1+1) 3=0)⟩,
  p.1,upFrom p.2 g.In.length,upFrom (p.2+g.In.length) g.Out.length⟩,p.2+g.In.length+g.Out.length)
theorem mSlots_le {xs:List DSlot} {k:Int} (h:xs.length≤1048576):k≤(marks mSlot xs k).2∧(marks mSlot xs k).2≤k+3145728:=by
 have:=marks_le (m:=mSlot) (C:=3) (xs:=xs) (k:=k) fun x _ k=>mSlot_le x k
 omega
theorem mGuest_le {g:DGuest} (h:SmallG g) (k:Int):k≤(mGuest g k).2∧(mGuest g k).2≤k+8388608:=by
 have:=h.c.regs; have:=h.i; have:=h.o
 have:=mSlots_le (k:=k+1+(g.C.Regs.length:Int)+1+1+1+1+1+1+1+1+1+1+1+1) h.pages
 simp only [mGuest]
 omega
theorem markGuestS_eq {xs:List DGuest} {k:Int} (h:xs.length≤1048576) (hs:∀ g ∈ xs,SmallG g) (h0:0≤k) (h1:k≤4503599627370496 - 8796093022208 - 8388608):F_laws_markGuestS xs k=some ((marks mGuest xs k).1,(marks mGuest xs k).2):=by
 have key:=mark_loop (m:=mGuest) (C:=8388608) (B:=4503599627370496 - 8388608) (step:=F_laws_markGuestS_l2) (xs:=xs) (k:=k) (fun x hx k=>mGuest_le (hs x hx) k) h0 (by omega) (by omega) (fun zs i q hz hi hm hq hb=>by
  have hg:=hs _ hm
  generalize hgg:zs.getD i default=g at hg
  have:=hg.c.regs; have:=hg.pages; have:=hg.i; have:=hg.o
  have e1:(i:Int)<(zs.length:Int):=by omega
  have g0:(0:Int)≤(i:Int)∧(i:Int)<(zs.length:Int):=⟨by omega,e1⟩
  have hp:=mSlots_le (k:=q+1+(g.C.Regs.length:Int)+1+1+1+1+1+1+1+1+1+1+1+1) hg.pages
  simp only [F_laws_markGuestS_l2,decide_eq_true e1,cond_true,Int.toNat_natCast,hgg,grd_t g0]
  rw [w_in (z:=q+1) (by omega) (by omega),markIntS_eq (by omega) (by omega) (by omega),Option.bind_some]
  simp only []
  generalize hr:q+1+(g.C.Regs.length:Int)=r at hp
  rw [grd_t (by rw [upFrom_len]),w_in (z:=r+1) (by omega) (by omega),w_in (z:=r+1+1) (by omega) (by omega),w_in (z:=r+1+1+1) (by omega) (by omega),w_in (z:=r+1+1+1+1) (by omega) (by omega),w_in (z:=r+1+1+1+1+1) (by omega) (by omega),w_in (z:=r+1+1+1+1+1+1) (by omega) (by omega),w_in (z:=r+1+1+1+1+1+1+1) (by omega) (by omega),w_in (z:=r+1+1+1+1+1+1+1+1) (by omega) (by omega),
   w_in (z:=r+1+1+1+1+1+1+1+1+1) (by omega) (by omega),w_in (z:=r+1+1+1+1+1+1+1+1+1+1) (by omega) (by omega),w_in (z:=r+1+1+1+1+1+1+1+1+1+1+1) (by omega) (by omega),w_in (z:=r+1+1+1+1+1+1+1+1+1+1+1+1) (by omega) (by omega),w_in (z:=(i:Int)+1) (by omega) (by omega)]
  rw [markSlotS_eq hg.pages (by omega) (by omega),Option.bind_some,grd_t (by rw [marks_len]),markIntS_eq (by omega) (by simp only; omega) (by simp only; omega),Option.bind_some,grd_t (by rw [upFrom_len]),markIntS_eq (by omega) (by simp only; omega) (by simp only; omega),Option.bind_some,grd_t (by rw [upFrom_len])]
  simp only [mGuest,hr]) (fun zs q _=>by simp only [F_laws_markGuestS_l2]; rw [decide_eq_false (by omega),cond_false])
 unfold F_laws_markGuestS
 rw [key]; rfl
theorem heldGuestS_eq {xs:List DGuest} {k:Int} (h:xs.length≤1048576) (hs:∀ g ∈ xs,SmallG g) (h0:0≤k) (h1:k≤4503599627370496 - 8796093022208 - 8388608):F_laws_heldGuestS (marks mGuest xs k).1 k=some (marks mGuest xs k).2:=by
 have key:=held_loop (m:=mGuest) (C:=8388608) (B:=4503599627370496 - 8388608) (step:=F_laws_heldGuestS_l2) (xs:=xs) (k:=k) (fun x hx k=>mGuest_le (hs x hx) k) h0 (by omega) (by omega) (fun zs i g q hz hi hm hq hb hgg=>by
  have hg:=hs _ hm
  have:=hg.c.regs; have:=hg.pages; have:=hg.i; have:=hg.o
  have e1:(i:Int)<(zs.length:Int):=by omega
  have g0:(0:Int)≤(i:Int)∧(i:Int)<(zs.length:Int):=⟨by omega,e1⟩
  have hp:=mSlots_le (k:=q+1+(g.C.Regs.length:Int)+1+1+1+1+1+1+1+1+1+1+1+1) hg.pages
  unfold F_laws_heldGuestS_l2
  rw [decide_eq_true e1,cond_true,grd_t g0,Int.toNat_natCast,hgg]
  simp (disch:=omega) only [mGuest,w_in,beq_self_eq_true,decide_true,Bool.not_true,cond_false,heldIntS_eq,Option.bind_some,decide_eq_false,grd_t g0,heldSlotS_eq hg.pages]) (fun zs q _=>by simp only [F_laws_heldGuestS_l2]; rw [decide_eq_false (by omega),cond_false])
 unfold F_laws_heldGuestS
 rw [key]; rfl
noncomputable def mHost (h:DHost) (k:Int):DHost × Int:=(⟨upFrom k h.Words.length,(marks mGuest h.Guests (k+h.Words.length)).1⟩,(marks mGuest h.Guests (k+h.Words.length)).2)
theorem mGuests_le {xs:List DGuest} {k:Int} (h:xs.length≤1048576) (hs:∀ g ∈ xs,SmallG g):k≤(marks mGuest xs k).2∧(marks mGuest xs k).2≤k+8796093022208:=by
 have:=marks_le (m:=mGuest) (C:=8388608) (xs:=xs) (k:=k) fun x hx k=>mGuest_le (hs x hx) k
 omega
theorem markHost_eq {h:DHost} (hs:SmallH h) {k:Int} (h0:0≤k) (h1:k≤1000000000):F_laws_markHost h k=some ((mHost h k).1.Words,(mHost h k).1.Guests,(mHost h k).2):=by
 have:=hs.words
 unfold F_laws_markHost
 rw [markIntS_eq (by omega) h0 (by omega),Option.bind_some,grd_t (by rw [upFrom_len]),markGuestS_eq hs.guests hs.all (by simp only; omega) (by simp only; omega),Option.bind_some,grd_t (by rw [marks_len])]
 rfl
theorem heldHost_eq {h:DHost} (hs:SmallH h) {k:Int} (h0:0≤k) (h1:k≤1000000000):F_laws_heldHost (mHost h k).1 k=some (mHost h k).2:=by
 have:=hs.words
 have:=mGuests_le (k:=k+h.Words.length) hs.guests hs.all
 unfold F_laws_heldHost
 simp only [mHost]
 rw [heldIntS_eq (by omega) h0 (by omega),Option.bind_some,decide_eq_false (by omega),cond_false,heldGuestS_eq hs.guests hs.all (by omega) (by omega),Option.bind_some,decide_eq_false (by omega),cond_false]
theorem heldHost_mk {h:DHost} (hs:SmallH h) {k:Int} (h0:0≤k) (h1:k≤1000000000):F_laws_heldHost ⟨(mHost h k).1.Words,(mHost h k).1.Guests⟩ k=some (mHost h k).2:=heldHost_eq hs h0 h1
theorem markHost_len {h:DHost} {k:Int}:(mHost h k).1.Words.length=h.Words.length∧(mHost h k).1.Guests.length=h.Guests.length:=by
 simp [mHost,upFrom_len,marks_len]
theorem mHost_pos {h:DHost} (hs:SmallH h) {k:Int} (h0:0≤k):0≤(mHost h k).2:=by
 have:=mGuests_le (k:=k+h.Words.length) hs.guests hs.all
 simp only [mHost]; omega
end Go.Proofs.Ytlikfpmbcdlnjaa
namespace Go.Proofs.Ytlikfpmbcdlnjaa
set_option linter.all false
theorem toBare_eq {b:DBare} (h:SmallB b):F_laws_toBare b=some b:=by
 unfold F_laws_toBare; rw [toCore_eq h.c,toIntS_eq h.mem,toIntS_eq h.i,toIntS_eq h.o]; rfl
theorem eqBare_eq {a b:DBare} (h:SmallB a):F_laws_eqBare a b=some (decide (a=b)):=by
 have:=h.c.regs; have:=h.mem; have:=h.i; have:=h.o
 unfold F_laws_eqBare
 rw [eqCore_eq (by omega),eqIntS_eq (by omega),eqIntS_eq (by omega),eqIntS_eq (by omega)]
 obtain ⟨c,m,i,o⟩:=a
 obtain ⟨c',m',i',o'⟩:=b
 simp only [Option.bind_some,DBare.mk.injEq]
 by_cases h0:c=c' <;> by_cases h1:m=m' <;> by_cases h2:i=i' <;> by_cases h3:o=o' <;> simp [*]
end Go.Proofs.Ytlikfpmbcdlnjaa
namespace Go.Proofs.Ytlikfpmbcdlnjaa
set_option linter.all false
end Go.Proofs.Ytlikfpmbcdlnjaa
namespace Go.Proofs.Ytlikfpmbcdlnjaa
set_option linter.all false
end Go.Proofs.Ytlikfpmbcdlnjaa
namespace Go.Proofs.Ytlikfpmbcdlnjaa
set_option linter.all false
end Go.Proofs.Ytlikfpmbcdlnjaa
namespace Go.Proofs.Ytlikfpmbcdlnjaa
set_option linter.all false
def M.fr (mem:List Int) (ss:List DSlot) (p:Nat):Int:=(M.free ss).getD (M.used mem p) default
section
variable {mem ws : List Int} {ss : List DSlot} (hu : M.used mem 8 ≤ (M.free ss).length)
include hu
end
end Go.Proofs.Ytlikfpmbcdlnjaa
namespace Go.Proofs.Ytlikfpmbcdlnjaa
set_option linter.all false
def enc (e:DEntry):Int:=8*e.Page+(bif e.There then 1 else 0)+(bif e.Write then 2 else 0)+(bif e.User then 4 else 0)
end Go.Proofs.Ytlikfpmbcdlnjaa
namespace Go.Proofs.Ytlikfpmbcdlnjaa
set_option linter.all false
structure Rdr (m : Int) (r : Dl20Rd) : Prop where
 b:∀ x ∈ r.b,0≤x∧x≤255
 p0:0≤r.p
 p1:r.p≤m
theorem Rdr.up {m n:Int} {r:Dl20Rd} (h:Rdr m r) (hn:m≤n):Rdr n r:=⟨h.b,h.p0,Int.le_trans h.p1 hn⟩
end Go.Proofs.Ytlikfpmbcdlnjaa
namespace Go.Proofs.Ytlikfpmbcdlnjaa
set_option linter.all false
end Go.Proofs.Ytlikfpmbcdlnjaa
namespace Go.Proofs.Ytlikfpmbcdlnjaa
set_option linter.all false
end Go.Proofs.Ytlikfpmbcdlnjaa
namespace Go.Proofs.Ytlikfpmbcdlnjaa
set_option linter.all false
namespace M
end M
end Go.Proofs.Ytlikfpmbcdlnjaa
namespace Go.Proofs.Ytlikfpmbcdlnjaa
set_option linter.all false
structure Tiny (b : DBare) : Prop where
 regs:b.C.Regs.length≤4
 mem:b.Mem.length≤64
 i:b.In.length≤31
 o:b.Out.length≤31
theorem Tiny.small {b:DBare} (h:Tiny b):SmallB b:=⟨⟨by have:=h.regs; omega⟩,by have:=h.mem; omega,by have:=h.i; omega,by have:=h.o; omega⟩
end Go.Proofs.Ytlikfpmbcdlnjaa
namespace Go.Proofs.Ytlikfpmbcdlnjaa
set_option linter.all false
structure LG (g : DGuest) : Prop where
 small:SmallG g
 pages:g.Live=true→g.Pages.length=8
structure LH (gs : List DGuest) : Prop where
 three:gs.length=3
 all:∀ g ∈ gs,LG g
theorem LH.set {gs:List DGuest} {i:Nat} {x:DGuest} (h:LH gs) (hx:LG x):LH (gs.set i x):=by
 refine ⟨by rw [List.length_set]; exact h.three,fun g hg=>?_⟩
 rcases List.mem_or_eq_of_mem_set hg with hg | rfl
 · exact h.all g hg
 · exact hx
theorem LH.get {gs:List DGuest} (h:LH gs) {i:Nat} (hi:i<3):LG (gs.getD i default):=h.all _ (getD_mem (by rw [h.three]; exact hi))
theorem LH.host {gs:List DGuest} {ws:List Int} (h:LH gs) (hw:ws.length=160):SmallH ⟨ws,gs⟩:=⟨by simp only [hw]; omega,by simp only [h.three]; omega,fun g hg=>(h.all g hg).small⟩
end Go.Proofs.Ytlikfpmbcdlnjaa
namespace Go.Proofs.Ytlikfpmbcdlnjaa
set_option linter.all false
structure Bt (h : DHost) (b : DBare) : Prop where
 hs:SmallH h
 hb:SmallB b
 ok:HOk h
 bok:M.bareOk b=true
 gone:M.gone h.Guests≠-1
 enough:M.used b.Mem 8≤(M.free (M.slots h.Guests)).length
theorem bt_of {h:DHost} {b:DBare} (hs:SmallH h) (hb:SmallB b) (ht:(M.hostBoot h b).2.2=true):Bt h b∧M.hostBoot h b=(M.booted h b,M.gone h.Guests,true):=by
 unfold M.hostBoot at ht ⊢
 cases hc:(M.hostOk h && M.bareOk b && (!decide (M.gone h.Guests = -1) && decide (M.used b.Mem 8≤(M.free (M.slots h.Guests)).length))) with
 | false=>rw [hc] at ht; cases ht
 | true =>
  simp only [Bool.and_eq_true,decide_eq_true_eq,Bool.not_eq_true',decide_eq_false_iff_not] at hc
  exact ⟨⟨hs,hb,hOk_iff.1 hc.1.1,hc.1.2,hc.2.1,hc.2.2⟩,rfl⟩
section
variable {h : DHost} {b : DBare} (t : Bt h b)
include t
theorem bt_words:(M.booted h b).Words.length=160:=wordsFor_len t.ok.len (by omega) t.enough
theorem bt_small:SmallH (M.booted h b):=by
 have h3:=t.hs.guests
 refine ⟨by rw [bt_words t]; omega,by simpa [M.booted] using h3,fun g hg=>?_⟩
 rcases List.mem_or_eq_of_mem_set hg with hg | rfl
 · exact t.hs.all g hg
 · exact ⟨t.hb.c,by simp [M.slotsFor],t.hb.i,t.hb.o⟩
end
theorem boot_small {h:DHost} {b:DBare} (hs:SmallH h) (hb:SmallB b):SmallH (M.hostBoot h b).1:=by
 cases ht:(M.hostBoot h b).2.2 with
 | true =>
  obtain ⟨t,e⟩:=bt_of hs hb ht
  rw [e]; exact bt_small t
 | false =>
  unfold M.hostBoot at ht ⊢
  cases hc:(M.hostOk h && M.bareOk b && (!decide (M.gone h.Guests = -1) && decide (M.used b.Mem 8≤(M.free (M.slots h.Guests)).length))) with
  | true=>rw [hc] at ht; cases ht
  | false=>exact ⟨by simp,by simp,by simp⟩
end Go.Proofs.Ytlikfpmbcdlnjaa
namespace Go.Proofs.Ytlikfpmbcdlnjaa
set_option linter.all false
theorem szBare_le {b:DBare} {left:Int} (h1:b.C.Regs.length≤9223372036854775807) (h2:b.Mem.length≤9223372036854775807) (h3:b.In.length≤9223372036854775807) (h4:b.Out.length≤9223372036854775807) (g0:0≤left) (g1:left≤1048576) :
 ∃ v,F_laws_szBare b left=some v∧(v<0∨(0≤v∧SmallB b)):=by
 unfold F_laws_szBare
 rw [szCore_eq h1 g0 g1]
 simp only [Option.bind_some]
 split
 · rename_i e1
   rw [decide_eq_false (p:=left - (b.C.Regs.length:Int)<0) (by omega),cond_false,szIntS_eq h2 (by omega) (by omega)]
   simp only [Option.bind_some]
   split
   · rename_i e2
     rw [decide_eq_false (p:=left - (b.C.Regs.length:Int) - (b.Mem.length:Int)<0) (by omega),cond_false,szIntS_eq h3 (by omega) (by omega)]
     simp only [Option.bind_some]
     split
     · rename_i e3
       rw [decide_eq_false (p:=left - (b.C.Regs.length:Int) - (b.Mem.length:Int) - (b.In.length:Int)<0) (by omega),cond_false,szIntS_eq h4 (by omega) (by omega)]
       simp only [Option.bind_some]
       split
       · rename_i e4
         exact ⟨_,by rw [decide_eq_false (p:=left - (b.C.Regs.length:Int) - (b.Mem.length:Int) - (b.In.length:Int) - (b.Out.length:Int)<0) (by omega)]; rfl,.inr ⟨by omega,⟨⟨by omega⟩,by omega,by omega,by omega⟩⟩⟩
       · exact ⟨-1,rfl,.inl (by omega)⟩
     · exact ⟨-1,rfl,.inl (by omega)⟩
   · exact ⟨-1,rfl,.inl (by omega)⟩
 · exact ⟨-1,rfl,.inl (by omega)⟩
theorem markCore_le {c:DCore} (h:SmallC c) {k:Int} (h0:0≤k) (h1:k≤1000000000000000):F_laws_markCore c k=some (upFrom k c.Regs.length,k+c.Regs.length):=by
 have:=h.regs
 unfold F_laws_markCore
 rw [markIntS_eq (by omega) h0 (by omega),Option.bind_some,grd_t (by simp only [upFrom_len])]
theorem markBare_le {b:DBare} (h:SmallB b) {k:Int} (h0:0≤k) (h1:k≤1000000000000000):F_laws_markBare b k=some (upFrom k b.C.Regs.length,upFrom (k+b.C.Regs.length) b.Mem.length,upFrom (k+b.C.Regs.length+b.Mem.length) b.In.length,upFrom (k+b.C.Regs.length+b.Mem.length+b.In.length) b.Out.length,k+b.C.Regs.length+b.Mem.length+b.In.length+b.Out.length):=by
 have:=h.c.regs; have:=h.mem; have:=h.i; have:=h.o
 unfold F_laws_markBare
 rw [markCore_le h.c h0 h1,Option.bind_some,grd_t (by simp only [upFrom_len]),markIntS_eq (by omega) (by simp only; omega) (by simp only; omega),Option.bind_some,grd_t (by simp only [upFrom_len]),markIntS_eq (by omega) (by simp only; omega) (by simp only; omega),Option.bind_some,grd_t (by simp only [upFrom_len]),markIntS_eq (by omega) (by simp only; omega) (by simp only; omega),Option.bind_some,grd_t (by simp only [upFrom_len])]
theorem mHost_top {h:DHost} (hs:SmallH h):(mHost h 1).2≤1000000000000000:=by
 have:=hs.words
 have:=mGuests_le (k:=1+h.Words.length) hs.guests hs.all
 simp only [mHost]; omega
theorem exactHostBoot {h:DHost} {b:DBare} (hf:FitH h) (h1:b.C.Regs.length≤9223372036854775807) (h2:b.Mem.length≤9223372036854775807) (h3:b.In.length≤9223372036854775807) (h4:b.Out.length≤9223372036854775807):F_laws_FnExactHostBoot h b=some true:=by
 unfold F_laws_FnExactHostBoot
 obtain ⟨v,hv,hs⟩:=szHost_eq hf (left:=1048576) (by omega) (by omega)
 rw [hv]
 simp only [Option.bind_some]
 rcases hs with h0 | ⟨h0,h00,hs⟩
 · rw [lt_t h0]; rfl
 · obtain ⟨u,hu,hb⟩:=szBare_le h1 h2 h3 h4 h0 h00
   rw [decide_eq_false (by omega),cond_false,hu]
   simp only [Option.bind_some]
   rcases hb with hb | ⟨hb0,hb⟩
   · rw [lt_t hb]; rfl
   · have hz:=boot_small hs hb
     have hp:=mHost_pos hs (k:=1) (by omega)
     have ht:=mHost_top hs
     have hp2:=mHost_pos hz (k:=1) (by omega)
     have:=hb.c.regs; have:=hb.mem; have:=hb.i; have:=hb.o
     rw [decide_eq_false (by omega),cond_false]
     simp only [toHost_eq hs,toBare_eq hb,hostBoot_i hs hb,hostBoot_s hs hb,Option.bind_some,eqHost_eq hs,eqHost_eq hz,eqBare_eq hb,decide_true,Bool.not_true,cond_false,beq_self_eq_true,markHost_eq hs (k:=1) (by omega) (by omega),markHost_eq hz (k:=1) (by omega) (by omega),markBare_le hb hp ht,markHost_len,heldHost_mk hz (k:=1) (by omega) (by omega)]
     rw [grd_t True.intro,grd_t True.intro,grd_t (by simp only [upFrom_len]),grd_t (by simp only [upFrom_len]),grd_t (by simp only [upFrom_len]),grd_t (by simp only [upFrom_len]),decide_eq_false (by omega),cond_false,grd_t True.intro,grd_t True.intro,decide_eq_false (by omega)]; simp only [cond_false]
end Go.Proofs.Ytlikfpmbcdlnjaa
