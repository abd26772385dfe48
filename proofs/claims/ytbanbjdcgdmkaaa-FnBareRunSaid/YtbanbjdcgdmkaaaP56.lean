/- The plain functions: what they answer. -/
import Derived.Test.YtbanbjdcgdmkaaaZY
import Derived.Test.YtbanbjdcgdmkaaaWO1
import Derived.Test.YtbanbjdcgdmkaaaWSO1
import Derived.Test.YtbanbjdcgdmkaaaWWK1
import Derived.Test.YtbanbjdcgdmkaaaWU1
import Derived.Test.YtbanbjdcgdmkaaaWHC1
import Derived.Test.YtbanbjdcgdmkaaaWKI1
import Derived.Test.YtbanbjdcgdmkaaaWKT1
import Derived.Test.YtbanbjdcgdmkaaaWKD1
import Derived.Test.YtbanbjdcgdmkaaaWKC1
import Derived.Test.YtbanbjdcgdmkaaaWBS1
import Derived.Test.YtbanbjdcgdmkaaaWKP1
import Derived.Test.YtbanbjdcgdmkaaaWBT1
import Derived.Test.YtbanbjdcgdmkaaaWD1
import Derived.Laws.Bits64
import Derived.Test.YtbanbjdcgdmkaaaWG1
import Derived.Test.YtbanbjdcgdmkaaaWI1
import Derived.Test.YtbanbjdcgdmkaaaWGB1
import Derived.Test.YtbanbjdcgdmkaaaWFB1
import Derived.Test.YtbanbjdcgdmkaaaWBR1
import Derived.Test.YtbanbjdcgdmkaaaWFR1
namespace Go.Proofs.Ytbanbjdcgdmkaaa
set_option linter.all false
theorem getD_lt {α:Type} [Inhabited α] {xs:List α} {i:Nat} (h:i<xs.length):xs.getD i default=xs[i]:=by simp [List.getD,h]
namespace M
def inR (lo hi n:Int):Bool:=decide (lo≤n) && decide (n≤hi)
def wordOk (n:Int):Bool:=inR 0 4095 n
def wordsOk (xs:List Int):Bool:=xs.all wordOk
def memOk (xs:List Int):Bool:=decide (xs.length=64) && wordsOk xs
theorem inR_iff {lo hi n:Int}:inR lo hi n=true↔lo≤n∧n≤hi:=by simp [inR]
end M
theorem cond_bs {b y:Bool}:(cond b (some y) (some false))=some (b && y):=by cases b <;> rfl
theorem wordOk_i (n:Int):F_impl_WordOk n=some (M.wordOk n):=by
 unfold F_impl_WordOk; rw [cond_bs]; rfl
theorem l1In_s (n lo hi:Int):F_spec_l1In n lo hi=some (M.inR lo hi n):=by
 unfold F_spec_l1In; rw [cond_bs]; rfl
theorem wordOk_s (n:Int):F_spec_WordOk n=some (M.wordOk n):=by
 unfold F_spec_WordOk; rw [l1In_s]; rfl
theorem lt_le {a b:Int}:decide (a<b+1)=decide (a≤b):=by rw [decide_eq_decide]; omega
theorem all_loop {T:Type} [Inhabited T] {xs:List T} {Pf:T→Option Bool} {p:T→Bool} (hP:∀ x,Pf x=some (p x)) (hl:xs.length≤9223372036854775806) (step:Int→Option (LO Int (JO Unit Bool)))
 (hs:∀ k,step k=cond (decide (k<((List.length xs:Nat):Int))) (grd ((0:Int)≤k∧k<((List.length xs:Nat):Int)) (Option.bind (Pf (List.getD xs (Int.toNat k) default)) fun v=>cond (!v) (some (.ret (.out false))) (some (.next (w64 (k+(1:Int))))))) (some (.ret (.go ())))) :
 iter step 0=some (.ret (bif xs.all p then .go () else .out false)):=by
 have key:∀ k:Int,(0≤k∧k≤(xs.length:Int))→iter step k=some (.ret (bif (xs.drop k.toNat).all p then .go () else .out false)):=by
  refine iter_rec _ (fun k=>xs.length - k.toNat) _ ?_
  rintro k ⟨h0,h1⟩
  by_cases hk:k<xs.length
  · have e1:xs.drop k.toNat=xs.getD k.toNat default::xs.drop (k+1).toNat:=by
     rw [getD_lt (by omega),show (k+1).toNat=k.toNat+1 by omega]; exact List.drop_eq_getElem_cons (by omega)
    have hst:step k=cond (!p (xs.getD k.toNat default)) (some (.ret (.out false))) (some (.next (k+1))):=by
     rw [hs,decide_eq_true hk,cond_true,grd_t ⟨h0,hk⟩,hP,w64_in (by omega) (by omega)]; rfl
    cases hp:p (xs.getD k.toNat default) with
    | true =>
     refine .inl ⟨k+1,by rw [hst,hp]; rfl,⟨by omega,by omega⟩,by omega,?_⟩
     rw [e1,List.all_cons,hp,Bool.true_and]
    | false =>
     refine .inr ⟨fun s'=>by rw [hst,hp]; simp,?_⟩
     rw [hst,hp,e1,List.all_cons,hp]; rfl
  · have hk2:k=xs.length:=by omega
    have hf:decide (k<((List.length xs:Nat):Int))=false:=by simp; omega
    refine .inr ⟨fun s'=>by rw [hs,hf]; simp,?_⟩
    rw [hs,hf,hk2]; simp
 simpa using key 0 ⟨by omega,by omega⟩
theorem wordsOk_i {xs:List Int} (h:xs.length≤9223372036854775806):F_impl_wordsOk xs=some (M.wordsOk xs):=by
 unfold F_impl_wordsOk
 rw [all_loop wordOk_i h (F_impl_wordsOk_l2 xs) (fun k=>rfl)]
 simp only [M.wordsOk]
 cases xs.all M.wordOk <;> rfl
theorem memOk_i {xs:List Int} (h:xs.length≤9223372036854775806):F_impl_MemOk xs=some (M.memOk xs):=by
 unfold F_impl_MemOk
 rw [wordsOk_i h]
 show cond _ (some _) (some false)=_
 rw [cond_bs]
 simp only [M.memOk]
 congr 2
 rw [decide_eq_decide]; omega
theorem memOk_s {xs:List Int} (h:xs.length≤9223372036854775806):F_spec_MemOk xs=some (M.memOk xs):=by
 unfold F_spec_MemOk
 rw [all_loop wordOk_s h (F_spec_MemOk_l2 xs) (fun k=>rfl)]
 simp only [M.memOk,M.wordsOk]
 cases xs.all M.wordOk
 · simp [LO.val,JO.run]
 · simp only [LO.val,JO.run,Option.bind_some,F_spec_MemOk_j1,cond_true,Bool.and_true]
   congr 1; rw [decide_eq_decide]; omega
theorem memOk_len {xs:List Int} (h:M.memOk xs=true):xs.length=64:=by
 simp only [M.memOk,Bool.and_eq_true,decide_eq_true_eq] at h; exact h.1
theorem wordsOk_get {xs:List Int} (h:M.wordsOk xs=true) {i:Nat} (hi:i<xs.length):0≤xs.getD i default∧xs.getD i default≤4095:=by
 rw [getD_lt hi]
 exact M.inR_iff.1 (List.all_eq_true.1 h _ (List.getElem_mem hi))
theorem wordsOk_set {xs:List Int} (h:M.wordsOk xs=true) {i:Nat} {w:Int} (h0:0≤w) (h1:w≤4095):M.wordsOk (xs.set i w)=true:=by
 refine List.all_eq_true.2 fun x hx=>?_
 rcases List.mem_or_eq_of_mem_set hx with h2 | rfl
 · exact List.all_eq_true.1 h x h2
 · exact M.inR_iff.2 ⟨h0,h1⟩
end Go.Proofs.Ytbanbjdcgdmkaaa
namespace Go.Proofs.Ytbanbjdcgdmkaaa
set_option linter.all false
def dec (w:Int):DEntry:=⟨decide (w % 2=1),decide (w / 2 % 2=1),decide (w / 4 % 2=1),w / 8 % 8⟩
theorem dec_page (w:Int):0≤(dec w).Page∧(dec w).Page≤7:=by simp only [dec]; omega
theorem div_in {w k:Int} (h0:0≤w) (h1:w≤4095) (hk:1≤k):w64 (Int.tdiv w k)=w / k∧0≤w / k:=by
 have e:Int.tdiv w k=w / k:=Int.tdiv_eq_ediv_of_nonneg h0
 have g0:0≤w / k:=Int.ediv_nonneg h0 (by omega)
 have g1:w / k≤w:=Int.ediv_le_self k h0
 rw [e,w64_in (by omega) (by omega)]; exact ⟨rfl,g0⟩
theorem entryFrom_i {w:Int} (h0:0≤w) (h1:w≤4095):F_impl_EntryFrom w=some (dec w):=by
 unfold F_impl_EntryFrom
 rw [wordOk_i,show M.wordOk w=true from M.inR_iff.2 ⟨h0,h1⟩]
 simp only [Option.bind_some,Bool.not_true,cond_false]
 rw [(div_in h0 h1 (k:=1) (by omega)).1,(div_in h0 h1 (k:=2) (by omega)).1,(div_in h0 h1 (k:=4) (by omega)).1,(div_in h0 h1 (k:=8) (by omega)).1,Int.tmod_eq_emod_of_nonneg (div_in h0 h1 (k:=1) (by omega)).2,Int.tmod_eq_emod_of_nonneg (div_in h0 h1 (k:=2) (by omega)).2,Int.tmod_eq_emod_of_nonneg (div_in h0 h1 (k:=4) (by omega)).2,Int.tmod_eq_emod_of_nonneg (div_in h0 h1 (k:=8) (by omega)).2,Int.ediv_one]
 rfl
theorem entryFrom_s {w:Int} (h0:0≤w) (h1:w≤4095):F_spec_EntryFrom w=some (dec w):=by
 unfold F_spec_EntryFrom
 rw [wordOk_s,show M.wordOk w=true from M.inR_iff.2 ⟨h0,h1⟩]
 simp only [Option.bind_some,Bool.not_true,cond_false]
 rw [(div_in h0 h1 (k:=2) (by omega)).1,(div_in h0 h1 (k:=4) (by omega)).1,(div_in h0 h1 (k:=8) (by omega)).1,Int.tmod_eq_emod_of_nonneg h0,Int.tmod_eq_emod_of_nonneg (div_in h0 h1 (k:=2) (by omega)).2,Int.tmod_eq_emod_of_nonneg (div_in h0 h1 (k:=4) (by omega)).2,Int.tmod_eq_emod_of_nonneg (div_in h0 h1 (k:=8) (by omega)).2]
 rfl
end Go.Proofs.Ytbanbjdcgdmkaaa
namespace Go.Proofs.Ytbanbjdcgdmkaaa
set_option linter.all false
theorem addressOk_i (n:Int):F_impl_addressOk n=some (M.inR 0 63 n):=by
 unfold F_impl_addressOk; rw [cond_bs,show (64:Int)=63+1 from rfl,lt_le]; rfl
theorem pageOk_i (n:Int):F_impl_pageOk n=some (M.inR 0 7 n):=by
 unfold F_impl_pageOk; rw [cond_bs,show (8:Int)=7+1 from rfl,lt_le]; rfl
theorem rootOk_i (n:Int):F_impl_rootOk n=some (M.inR (-1) 7 n):=by
 unfold F_impl_rootOk
 rw [pageOk_i]
 by_cases h:n = -1
 · subst h; rfl
 · rw [decide_eq_false h]
   show some (M.inR 0 7 n)=_
   congr 1
   simp only [M.inR]
   congr 1
   rw [decide_eq_decide]; omega
end Go.Proofs.Ytbanbjdcgdmkaaa
namespace Go.Proofs.Ytbanbjdcgdmkaaa
set_option linter.all false
namespace M
def lets (e:DEntry) (user write:Bool):Bool:=e.There && (e.Write || !write) && (e.User || !user)
def walk (mem:List Int) (root addr:Int) (user write:Bool):Int :=
 bif memOk mem && inR (-1) 7 root && inR 0 63 addr then
  bif decide (root = -1) then addr else
   bif lets (dec (mem.getD (root*8+addr / 8).toNat default)) user write then (dec (mem.getD (root*8+addr / 8).toNat default)).Page*8+addr % 8 else -1
 else -1
end M
theorem memOk_words {xs:List Int} (h:M.memOk xs=true):M.wordsOk xs=true:=(Bool.and_eq_true _ _ ▸ h).2
theorem lets_i (e:DEntry) (user write:Bool):F_impl_entryLets e user write=some (M.lets e user write):=by
 obtain ⟨t,w,u,p⟩:=e
 unfold F_impl_entryLets
 cases t <;> cases w <;> cases u <;> cases user <;> cases write <;> rfl
theorem walk_i {mem:List Int} {root addr:Int} {user write:Bool} (hl:mem.length≤9223372036854775806):F_impl_Walk mem root addr user write=some (M.walk mem root addr user write):=by
 unfold F_impl_Walk M.walk
 rw [memOk_i hl,rootOk_i,addressOk_i]
 cases hm:M.memOk mem with
 | false=>simp only [Option.bind_some,Bool.not_false,cond_true,Bool.false_and,cond_false]
 | true =>
  cases hr:M.inR (-1) 7 root with
  | false=>simp only [Option.bind_some,Bool.not_false,Bool.not_true,cond_true,Bool.false_and,Bool.and_false,cond_false]
  | true =>
   cases ha:M.inR 0 63 addr with
   | false=>simp only [Option.bind_some,Bool.not_false,Bool.not_true,cond_true,Bool.false_and,Bool.and_false,cond_false]
   | true =>
    have hr:=M.inR_iff.1 hr
    have ha:=M.inR_iff.1 ha
    have hlen:=memOk_len hm
    simp only [Option.bind_some,Bool.not_true,cond_true,cond_false,Bool.and_self]
    by_cases h1:root = -1
    · rw [decide_eq_true h1]; rfl
    · have e1:Int.tdiv addr 8=addr / 8:=Int.tdiv_eq_ediv_of_nonneg ha.1
      have e2:Int.tmod addr 8=addr % 8:=Int.tmod_eq_emod_of_nonneg ha.1
      rw [decide_eq_false h1,cond_false,cond_false,e1,e2,w64_in (z:=root*8) (by omega) (by omega),w64_in (z:=addr / 8) (by omega) (by omega),w64_in (z:=root*8+addr / 8) (by omega) (by omega),grd_t ⟨by omega,by omega⟩]
      have hw:=wordsOk_get (memOk_words hm) (i:=(root*8+addr / 8).toNat) (by omega)
      rw [entryFrom_i hw.1 hw.2]
      generalize mem.getD (root*8+addr / 8).toNat default=w
      have hp:=dec_page w
      simp only [Option.bind_some,lets_i]
      rw [w64_in (z:=(dec w).Page*8) (by omega) (by omega),w64_in (z:=(dec w).Page*8+addr % 8) (by omega) (by omega)]
      cases M.lets (dec w) user write <;> rfl
end Go.Proofs.Ytbanbjdcgdmkaaa
namespace Go.Proofs.Ytbanbjdcgdmkaaa
set_option linter.all false
theorem walk_cases (mem:List Int) (root addr:Int) (user write:Bool):M.walk mem root addr user write = -1 ∨
 (M.memOk mem=true∧(-1≤root∧root≤7)∧(0≤addr∧addr≤63)∧0≤M.walk mem root addr user write∧M.walk mem root addr user write<64 ∧
  M.walk mem root addr false false=M.walk mem root addr user write∧M.walk mem root addr user false=M.walk mem root addr user write∧M.walk mem root (addr - addr % 8) user write=M.walk mem root addr user write - addr % 8):=by
 by_cases hm:M.memOk mem=true
 · by_cases hr:M.inR (-1) 7 root=true
   · by_cases ha:M.inR 0 63 addr=true
     · have hr2:=M.inR_iff.1 hr
       have ha2:=M.inR_iff.1 ha
       have hb:M.inR 0 63 (addr - addr % 8)=true:=M.inR_iff.2 ⟨by omega,by omega⟩
       by_cases h1:root = -1
       · have e:∀ u w,M.walk mem root addr u w=addr:=fun u w=>by simp only [M.walk,hm,hr,ha,decide_eq_true h1,Bool.and_self,cond_true]
         have e':∀ u w,M.walk mem root (addr - addr % 8) u w=addr - addr % 8:=fun u w=>by simp only [M.walk,hm,hr,hb,decide_eq_true h1,Bool.and_self,cond_true]
         rw [e,e,e,e']
         exact .inr ⟨hm,hr2,ha2,by omega,by omega,rfl,rfl,rfl⟩
       · have e:∀ u w,M.walk mem root addr u w=(bif M.lets (dec (mem.getD (root*8+addr / 8).toNat default)) u w then (dec (mem.getD (root*8+addr / 8).toNat default)).Page*8+addr % 8 else -1):=fun u w=>by
          simp only [M.walk,hm,hr,ha,decide_eq_false h1,Bool.and_self,cond_true,cond_false]
         have e':∀ u w,M.walk mem root (addr - addr % 8) u w=(bif M.lets (dec (mem.getD (root*8+addr / 8).toNat default)) u w then (dec (mem.getD (root*8+addr / 8).toNat default)).Page*8 else -1):=fun u w=>by
          simp only [M.walk,hm,hr,hb,decide_eq_false h1,Bool.and_self,cond_true,cond_false]
          rw [show (addr - addr % 8) / 8=addr / 8 by omega,show (addr - addr % 8) % 8=0 by omega]; simp
         rw [e,e,e,e']
         have hp:=dec_page (mem.getD (root*8+addr / 8).toNat default)
         generalize dec (mem.getD (root*8+addr / 8).toNat default)=x at hp ⊢
         cases hx:M.lets x user write with
         | false=>exact .inl rfl
         | true =>
          have h2:M.lets x false false=true:=by
           simp only [M.lets,Bool.and_eq_true,Bool.or_eq_true,Bool.not_false,Bool.or_true,and_true] at hx ⊢; exact hx.1.1
          have h3:M.lets x user false=true:=by
           simp only [M.lets,Bool.and_eq_true,Bool.or_eq_true,Bool.not_false,Bool.or_true,and_true] at hx ⊢; exact ⟨hx.1.1,hx.2⟩
          rw [h2,h3]
          simp only [cond_true]
          exact .inr ⟨hm,hr2,ha2,by omega,by omega,by first | trivial | rfl,by first | trivial | rfl,by omega⟩
     · exact .inl (by simp only [M.walk,Bool.eq_false_iff.2 ha,Bool.and_false,cond_false])
   · exact .inl (by simp only [M.walk,Bool.eq_false_iff.2 hr,Bool.and_false,Bool.false_and,cond_false])
 · exact .inl (by simp only [M.walk,Bool.eq_false_iff.2 hm,Bool.false_and,cond_false])
theorem walk_lt (mem:List Int) (root addr:Int) (user write:Bool) (h:¬ M.walk mem root addr user write = -1):0≤M.walk mem root addr user write∧M.walk mem root addr user write<64:=by
 rcases walk_cases mem root addr user write with h1 | ⟨_,_,_,h2,h3,_⟩
 · exact absurd h1 h
 · exact ⟨h2,h3⟩
end Go.Proofs.Ytbanbjdcgdmkaaa
namespace Go.Proofs.Ytbanbjdcgdmkaaa
set_option linter.all false
noncomputable instance:DecidableEq DCore:=fun a b=>Classical.propDecidable (a=b)
noncomputable instance:DecidableEq DBare:=fun a b=>Classical.propDecidable (a=b)
namespace M
def coreOk (c:DCore):Bool:=decide (c.Regs.length=4) && wordsOk c.Regs && (inR 0 63 c.Pc && inR 0 63 c.Vector && inR 0 63 c.Saved && inR 0 63 c.Bad) && inR (-1) 7 c.Root && inR 0 4 c.Cause && wordOk c.Timer
def rowOk (xs:List Int):Bool:=decide (xs.length≤30) && wordsOk xs
def bareOk (b:DBare):Bool:=coreOk b.C && memOk b.Mem && rowOk b.In && rowOk b.Out
end M
theorem rowOk_i {xs:List Int} (h:xs.length≤9223372036854775806):F_impl_rowOk xs=some (M.rowOk xs):=by
 unfold F_impl_rowOk
 rw [wordsOk_i h]
 show cond _ (some _) (some false)=_
 rw [cond_bs]
 simp only [M.rowOk]
 congr 2
 rw [decide_eq_decide]; omega
theorem words_s {xs:List Int} (h:xs.length≤9223372036854775806):F_spec_l3Words xs 30=some (M.rowOk xs):=by
 unfold F_spec_l3Words
 rw [all_loop wordOk_s h (F_spec_l3Words_l2 xs) (fun k=>rfl)]
 simp only [M.rowOk,M.wordsOk]
 cases xs.all M.wordOk
 · simp [LO.val,JO.run]
 · simp only [LO.val,JO.run,Option.bind_some,F_spec_l3Words_j1,cond_true,Bool.and_true]
   congr 1; rw [decide_eq_decide]; omega
theorem coreOk_i {c:DCore} (h:c.Regs.length≤9223372036854775806):F_impl_CoreOk c=some (M.coreOk c):=by
 unfold F_impl_CoreOk
 simp only [wordsOk_i h,addressOk_i,rootOk_i,wordOk_i,Option.bind_some]
 have e4:decide (((c.Regs.length:Nat):Int)=4)=decide (c.Regs.length=4):=by rw [decide_eq_decide]; omega
 rw [e4]
 simp only [M.coreOk,M.inR]
 generalize decide (c.Regs.length=4)=b0
 generalize M.wordsOk c.Regs=b1
 generalize (decide (0≤c.Pc) && decide (c.Pc≤63))=b2
 generalize (decide (0≤c.Vector) && decide (c.Vector≤63))=b3
 generalize (decide (0≤c.Saved) && decide (c.Saved≤63))=b4
 generalize (decide (0≤c.Bad) && decide (c.Bad≤63))=b5
 generalize (decide (-1≤c.Root) && decide (c.Root≤7))=b6
 generalize decide (0≤c.Cause)=b7
 generalize decide (c.Cause≤4)=b8
 generalize M.wordOk c.Timer=b9
 cases b0 <;> cases b2 <;> cases b3 <;> cases b4 <;> cases b7 <;> cases b1 <;> cases b5 <;> cases b6 <;> cases b8 <;> rfl
theorem coreOk_s {c:DCore} (h:c.Regs.length≤9223372036854775806):F_spec_CoreOk c=some (M.coreOk c):=by
 unfold F_spec_CoreOk
 rw [all_loop wordOk_s h (F_spec_CoreOk_l9 c) (fun k=>rfl)]
 simp only [M.coreOk,M.wordsOk]
 cases c.Regs.all M.wordOk
 · simp [LO.val,JO.run]
 · simp only [LO.val,JO.run,Option.bind_some,F_spec_CoreOk_j1,cond_true,Bool.and_true,l1In_s,wordOk_s]
   have e4:decide (((c.Regs.length:Nat):Int)=4)=decide (c.Regs.length=4):=by rw [decide_eq_decide]; omega
   rw [e4]
   generalize decide (c.Regs.length=4)=b0
   generalize M.inR 0 63 c.Pc=b2
   generalize M.inR 0 63 c.Vector=b3
   generalize M.inR 0 63 c.Saved=b4
   generalize M.inR 0 63 c.Bad=b5
   generalize M.inR (-1) 7 c.Root=b6
   generalize M.inR 0 4 c.Cause=b7
   generalize M.wordOk c.Timer=b9
   cases b0 <;> cases b2 <;> cases b3 <;> cases b4 <;> cases b7 <;> cases b5 <;> cases b6 <;> rfl
structure SmallC (c : DCore) : Prop where
 regs:c.Regs.length≤1048576
structure SmallB (b : DBare) : Prop where
 c:SmallC b.C
 mem:b.Mem.length≤1048576
 i:b.In.length≤1048576
 o:b.Out.length≤1048576
theorem bareOk_i {b:DBare} (h:SmallB b):F_impl_BareOk b=some (M.bareOk b):=by
 have:=h.c.regs; have:=h.mem; have:=h.i; have:=h.o
 unfold F_impl_BareOk
 simp only [coreOk_i (show b.C.Regs.length≤9223372036854775806 by omega),memOk_i (show b.Mem.length≤9223372036854775806 by omega),rowOk_i (show b.In.length≤9223372036854775806 by omega),rowOk_i (show b.Out.length≤9223372036854775806 by omega),Option.bind_some,M.bareOk]
 cases M.coreOk b.C <;> cases M.memOk b.Mem <;> cases M.rowOk b.In <;> rfl
theorem bareOk_s {b:DBare} (h:SmallB b):F_spec_BareOk b=some (M.bareOk b):=by
 have:=h.c.regs; have:=h.mem; have:=h.i; have:=h.o
 unfold F_spec_BareOk
 simp only [coreOk_s (show b.C.Regs.length≤9223372036854775806 by omega),memOk_s (show b.Mem.length≤9223372036854775806 by omega),words_s (show b.In.length≤9223372036854775806 by omega),words_s (show b.Out.length≤9223372036854775806 by omega),Option.bind_some,M.bareOk]
 cases M.coreOk b.C <;> cases M.memOk b.Mem <;> cases M.rowOk b.In <;> rfl
end Go.Proofs.Ytbanbjdcgdmkaaa
namespace Go.Proofs.Ytbanbjdcgdmkaaa
set_option linter.all false
namespace M
def insOk (x:DIns):Bool:=inR 0 15 x.Op && inR 0 3 x.A && inR 0 63 x.N
end M
theorem insOk_s (x:DIns):F_spec_InsOk x=some (M.insOk x):=by
 unfold F_spec_InsOk
 rw [l1In_s,l1In_s,l1In_s]
 simp only [Option.bind_some,M.insOk]
 cases M.inR 0 15 x.Op <;> cases M.inR 0 3 x.A <;> cases M.inR 0 63 x.N <;> rfl
end Go.Proofs.Ytbanbjdcgdmkaaa
namespace Go.Proofs.Ytbanbjdcgdmkaaa
set_option linter.all false
theorem over_all {T:Type} {xs ys:List T} (h:xs.length=ys.length):over xs 0 xs.length ys=ys:=by
 simp only [over,h,Nat.min_self,List.take_length,Nat.zero_add,List.take_zero,List.nil_append]
 rw [List.drop_eq_nil_of_le (by omega),List.append_nil]
theorem copied_eq {xs:List Int} (h:xs.length≤1048576):F_impl_copied xs=some xs:=by
 unfold F_impl_copied
 rw [grd_t ⟨by omega,by omega,by omega⟩,over_all (by simp)]
end Go.Proofs.Ytbanbjdcgdmkaaa
namespace Go.Proofs.Ytbanbjdcgdmkaaa
set_option linter.all false
namespace M
def reg (c:DCore) (k:Int):Int:=c.Regs.getD k.toNat default
def trap (c:DCore) (src cause bad:Int):DCore:=⟨c.Regs,c.Vector,c.Root,c.Vector,src,c.User,cause,bad,c.Timer,c.Waits,false,false,c.Stopped⟩
def tick (c:DCore):DCore:=bif decide (c.Timer=0) then c else ⟨c.Regs,c.Pc,c.Root,c.Vector,c.Saved,c.SavedUser,c.Cause,c.Bad,c.Timer - 1,(bif decide (c.Timer - 1=0) then true else c.Waits),c.User,c.On,c.Stopped⟩
def ins (w:Int):DIns:=⟨w / 256,w / 64 % 4,w % 64⟩
def kern (op:Int):Bool:=decide (op=0) || inR 8 14 op
def at_ (c:DCore) (pc:Int):DCore:=⟨c.Regs,pc,c.Root,c.Vector,c.Saved,c.SavedUser,c.Cause,c.Bad,c.Timer,c.Waits,c.User,c.On,c.Stopped⟩
def go (c:DCore):DCore:=at_ c ((c.Pc+1) % 64)
def put (c:DCore) (a w:Int):DCore:=⟨c.Regs.set a.toNat w,c.Pc,c.Root,c.Vector,c.Saved,c.SavedUser,c.Cause,c.Bad,c.Timer,c.Waits,c.User,c.On,c.Stopped⟩
def with_ (b:DBare) (c:DCore):DBare:=⟨c,b.Mem,b.In,b.Out⟩
def root (w:Int):Int:=bif decide (w % 16<8) then w % 16 else -1
def first (xs:List Int):Int:=xs.getD 0 default
def cin (b:DBare) (k:Int):Int:=bif decide (k=1) then b.C.Cause else bif decide (k=2) then b.C.Bad else bif decide (k=3) then b.C.Saved else first b.In
def rest (xs:List Int) (k:Int):List Int:=bif decide (k=0) then xs.drop 1 else xs
def kdo (b:DBare) (i:DIns):DBare :=
 bif decide (i.Op=0) then with_ b ⟨b.C.Regs,b.C.Pc,b.C.Root,b.C.Vector,b.C.Saved,b.C.SavedUser,b.C.Cause,b.C.Bad,b.C.Timer,b.C.Waits,b.C.User,b.C.On,true⟩
 else bif decide (i.Op=8) then with_ b (go ⟨b.C.Regs,b.C.Pc,root (reg b.C i.A),b.C.Vector,b.C.Saved,b.C.SavedUser,b.C.Cause,b.C.Bad,b.C.Timer,b.C.Waits,b.C.User,b.C.On,b.C.Stopped⟩)
 else bif decide (i.Op=9) then with_ b (go ⟨b.C.Regs,b.C.Pc,b.C.Root,reg b.C i.A % 64,b.C.Saved,b.C.SavedUser,b.C.Cause,b.C.Bad,b.C.Timer,b.C.Waits,b.C.User,b.C.On,b.C.Stopped⟩)
 else bif decide (i.Op=10) then with_ b (go ⟨b.C.Regs,b.C.Pc,b.C.Root,b.C.Vector,b.C.Saved,b.C.SavedUser,b.C.Cause,b.C.Bad,reg b.C i.A,b.C.Waits,b.C.User,b.C.On,b.C.Stopped⟩)
 else bif decide (i.Op=11) then with_ b ⟨b.C.Regs,b.C.Saved,b.C.Root,b.C.Vector,b.C.Saved,b.C.SavedUser,b.C.Cause,b.C.Bad,b.C.Timer,b.C.Waits,b.C.SavedUser,true,b.C.Stopped⟩
 else bif decide (i.Op=12) then with_ b (go ⟨b.C.Regs,b.C.Pc,b.C.Root,b.C.Vector,b.C.Saved,b.C.SavedUser,b.C.Cause,b.C.Bad,b.C.Timer,b.C.Waits,b.C.User,decide (i.N % 2=1),b.C.Stopped⟩)
 else bif decide (i.Op=13) then ⟨go b.C,b.Mem,b.In,bif decide (b.Out.length<30) then b.Out ++ [reg b.C i.A] else b.Out⟩
 else ⟨go (put b.C i.A (cin b (i.N % 4))),b.Mem,rest b.In (i.N % 4),b.Out⟩
def plain (c:DCore) (i:DIns):DCore :=
 bif decide (i.Op=1) then go (put c i.A i.N)
 else bif decide (i.Op=2) then go (put c i.A ((reg c i.A+reg c (i.N % 4)) % 4096))
 else bif decide (i.Op=15) then go (put c i.A ((reg c i.A - reg c (i.N % 4)+4096) % 4096))
 else bif decide (i.Op=5) then at_ c i.N
 else bif decide (i.Op=6) then bif decide (reg c i.A=0) then go c else at_ c i.N
 else trap c ((c.Pc+1) % 64) 1 0
def mdo (b:DBare) (i:DIns):DBare :=
 bif decide (walk b.Mem b.C.Root (reg b.C (i.N % 4) % 64) b.C.User (decide (i.Op=4)) = -1) then with_ b (trap b.C b.C.Pc 2 (reg b.C (i.N % 4) % 64))
 else bif decide (i.Op=3) then with_ b (go (put b.C i.A (b.Mem.getD (walk b.Mem b.C.Root (reg b.C (i.N % 4) % 64) b.C.User false).toNat default)))
 else ⟨go b.C,b.Mem.set (walk b.Mem b.C.Root (reg b.C (i.N % 4) % 64) b.C.User true).toNat (reg b.C i.A),b.In,b.Out⟩
def did (b:DBare) (i:DIns):DBare :=
 bif kern i.Op then bif b.C.User then with_ b (trap b.C b.C.Pc 3 0) else kdo b i
 else bif decide (i.Op=3) || decide (i.Op=4) then mdo b i else with_ b (plain b.C i)
def quiet (c:DCore):DCore:=⟨c.Regs,c.Pc,c.Root,c.Vector,c.Saved,c.SavedUser,c.Cause,c.Bad,c.Timer,false,c.User,c.On,c.Stopped⟩
def step (b:DBare):DBare :=
 bif b.C.Stopped then b
 else bif (tick b.C).Waits && (tick b.C).On then with_ b (trap (quiet (tick b.C)) (tick b.C).Pc 4 0)
 else bif decide (walk b.Mem (tick b.C).Root (tick b.C).Pc (tick b.C).User false = -1) then with_ b (trap (tick b.C) (tick b.C).Pc 2 (tick b.C).Pc)
 else did (with_ b (tick b.C)) (ins (b.Mem.getD (walk b.Mem (tick b.C).Root (tick b.C).Pc (tick b.C).User false).toNat default))
end M
theorem insOk_i (x:DIns):F_impl_InsOk x=some (M.insOk x):=by
 unfold F_impl_InsOk
 simp only [M.insOk,M.inR]
 rw [show (4:Int)=3+1 from rfl,show (64:Int)=63+1 from rfl,lt_le,lt_le]
 cases decide (0≤x.Op) <;> cases decide (0≤x.A) <;> cases decide (0≤x.N) <;> cases decide (x.Op≤15) <;> cases decide (x.A≤3) <;> cases decide (x.N≤63) <;> rfl
theorem op_cases {k:Int} (h0:0≤k) (h1:k≤15):k=0∨k=1∨k=2∨k=3∨k=4∨k=5∨k=6∨k=7∨k=8∨k=9∨k=10∨k=11∨k=12∨k=13∨k=14∨k=15:=by omega
theorem insKernel_i {x:DIns} (h:M.insOk x=true):F_impl_InsKernel x=some (M.kern x.Op):=by
 unfold F_impl_InsKernel
 rw [insOk_i,h]
 obtain ⟨op,a,n⟩:=x
 simp only [M.insOk,Bool.and_eq_true,M.inR_iff] at h
 rcases op_cases h.1.1.1 h.1.1.2 with e | e | e | e | e | e | e | e | e | e | e | e | e | e | e | e <;> subst e <;> rfl
theorem insKernel_s {x:DIns} (h:M.insOk x=true):F_spec_InsKernel x=some (M.kern x.Op):=by
 unfold F_spec_InsKernel
 rw [insOk_s,h,l1In_s]
 simp only [Option.bind_some,cond_true,M.kern]
 cases decide (x.Op=0) <;> rfl
theorem insFrom_i {w:Int} (h0:0≤w) (h1:w≤4095):F_impl_InsFrom w=some (M.ins w):=by
 unfold F_impl_InsFrom
 rw [wordOk_i,show M.wordOk w=true from M.inR_iff.2 ⟨h0,h1⟩]
 simp only [Option.bind_some,Bool.not_true,cond_false]
 rw [(div_in h0 h1 (k:=256) (by omega)).1,(div_in h0 h1 (k:=64) (by omega)).1,Int.tmod_eq_emod_of_nonneg (div_in h0 h1 (k:=64) (by omega)).2,Int.tmod_eq_emod_of_nonneg h0]
 rfl
theorem insFrom_s {w:Int} (h0:0≤w) (h1:w≤4095):F_spec_InsFrom w=some (M.ins w):=by
 unfold F_spec_InsFrom
 rw [wordOk_s,show M.wordOk w=true from M.inR_iff.2 ⟨h0,h1⟩]
 simp only [Option.bind_some,Bool.not_true,cond_false]
 rw [(div_in h0 h1 (k:=256) (by omega)).1,(div_in h0 h1 (k:=64) (by omega)).1,Int.tmod_eq_emod_of_nonneg (div_in h0 h1 (k:=64) (by omega)).2,Int.tmod_eq_emod_of_nonneg h0]
 rfl
theorem ins_ok {w:Int} (h0:0≤w) (h1:w≤4095):M.insOk (M.ins w)=true:=by
 simp only [M.insOk,M.ins,Bool.and_eq_true,M.inR_iff]; omega
structure BOk (b : DBare) : Prop where
 regs:b.C.Regs.length=4
 words:M.wordsOk b.C.Regs=true
 pc:0≤b.C.Pc∧b.C.Pc≤63
 vec:0≤b.C.Vector∧b.C.Vector≤63
 sav:0≤b.C.Saved∧b.C.Saved≤63
 bad:0≤b.C.Bad∧b.C.Bad≤63
 root:-1≤b.C.Root∧b.C.Root≤7
 cause:0≤b.C.Cause∧b.C.Cause≤4
 timer:0≤b.C.Timer∧b.C.Timer≤4095
 mem:M.memOk b.Mem=true
 inn:b.In.length≤30
 inw:M.wordsOk b.In=true
 out:b.Out.length≤30
 outw:M.wordsOk b.Out=true
theorem bOk_iff {b:DBare}:M.bareOk b=true↔BOk b:=by
 simp only [M.bareOk,M.coreOk,M.rowOk,M.wordOk,Bool.and_eq_true,decide_eq_true_eq,M.inR_iff]
 constructor
 · rintro ⟨⟨⟨⟨⟨⟨⟨⟨a1,a2⟩,⟨⟨a3,a4⟩,a5⟩,a6⟩,a7⟩,a8⟩,a9⟩,a10⟩,a11,a12⟩,a13,a14⟩
   exact ⟨a1,a2,a3,a4,a5,a6,a7,a8,a9,a10,a11,a12,a13,a14⟩
 · rintro ⟨a1,a2,a3,a4,a5,a6,a7,a8,a9,a10,a11,a12,a13,a14⟩
   exact ⟨⟨⟨⟨⟨⟨⟨⟨a1,a2⟩,⟨⟨a3,a4⟩,a5⟩,a6⟩,a7⟩,a8⟩,a9⟩,a10⟩,a11,a12⟩,a13,a14⟩
theorem BOk.len {b:DBare} (h:BOk b):b.Mem.length=64:=memOk_len h.mem
theorem BOk.reg {b:DBare} (h:BOk b) {k:Int} (h0:0≤k) (h1:k<4):0≤M.reg b.C k∧M.reg b.C k≤4095:=wordsOk_get h.words (by have:=h.regs; omega)
structure KOk (b : DBare) : Prop where
 regs:b.C.Regs.length=4
 words:M.wordsOk b.C.Regs=true
 pc:0≤b.C.Pc∧b.C.Pc≤63
 vec:0≤b.C.Vector∧b.C.Vector≤63
 sav:0≤b.C.Saved∧b.C.Saved≤63
 bad:0≤b.C.Bad∧b.C.Bad≤63
 root:-1≤b.C.Root∧b.C.Root≤7
 cause:0≤b.C.Cause∧b.C.Cause≤4
 timer:0≤b.C.Timer∧b.C.Timer≤4095
 inn:b.In.length≤30
 inw:M.wordsOk b.In=true
 out:b.Out.length≤30
 outw:M.wordsOk b.Out=true
theorem BOk.k {b:DBare} (h:BOk b):KOk b:=⟨h.regs,h.words,h.pc,h.vec,h.sav,h.bad,h.root,h.cause,h.timer,h.inn,h.inw,h.out,h.outw⟩
theorem KOk.reg {b:DBare} (h:KOk b) {k:Int} (h0:0≤k) (h1:k<4):0≤M.reg b.C k∧M.reg b.C k≤4095:=wordsOk_get h.words (by have:=h.regs; omega)
theorem KOk.to {b b':DBare} (h:KOk b) (h1:b'.C=b.C) (h2:b'.In=b.In) (h3:b'.Out=b.Out):KOk b':=by
 obtain ⟨c,m,i,o⟩:=b'
 simp only at h1 h2 h3
 subst h1 h2 h3
 exact ⟨h.regs,h.words,h.pc,h.vec,h.sav,h.bad,h.root,h.cause,h.timer,h.inn,h.inw,h.out,h.outw⟩
section
variable {b : DBare} {op a n : Int}
theorem KOk.gA (hb:KOk b) (h0:0≤a) (h1:a≤3):0≤a∧a<((b.C.Regs.length:Nat):Int):=by have:=hb.regs; omega
theorem tmod4 (h0:0≤n):Int.tmod n 4=n % 4:=Int.tmod_eq_emod_of_nonneg h0
theorem addressOf_i (hb:KOk b) (h0:0≤n):F_impl_addressOf b.C ⟨op,a,n⟩=some (M.reg b.C (n % 4) % 64):=by
 unfold F_impl_addressOf
 simp only [tmod4 h0]
 rw [grd_t (hb.gA (by omega) (by omega)),show b.C.Regs.getD (n % 4).toNat default=M.reg b.C (n % 4) from rfl,Int.tmod_eq_emod_of_nonneg (hb.reg (by omega) (by omega)).1]
end
theorem ticked_i {c:DCore} (h0:0≤c.Timer) (h1:c.Timer≤4095):F_impl_ticked c=some (M.tick c):=by
 unfold F_impl_ticked M.tick F_impl_ticked_j1
 rw [w64_in (z:=c.Timer - 1) (by omega) (by omega)]
 cases decide (c.Timer=0) <;> cases decide (c.Timer - 1=0) <;> rfl
theorem ticked_s {c:DCore} (h0:0≤c.Timer) (h1:c.Timer≤4095):F_spec_l3Ticked c=some (bif (M.tick c).Waits && (M.tick c).On then (M.trap (M.quiet (M.tick c)) (M.tick c).Pc 4 0,true) else (M.tick c,false)):=by
 unfold F_spec_l3Ticked F_spec_l3Ticked_j1 F_spec_l3Ticked_j2
 obtain ⟨r,pc,ro,v,s,su,ca,ba,t,w,u,o,st⟩:=c
 simp only at h0 h1
 rw [w64_in (z:=t - 1) (by omega) (by omega)]
 by_cases e:t=0
 · subst e
   simp only [M.tick,decide_true,cond_true,Int.lt_irrefl,decide_false,cond_false,Option.bind_some,JO.run]
   cases w <;> cases o <;> rfl
 · simp only [M.tick,decide_eq_false e,decide_eq_true (show 0<t by omega),cond_true,cond_false]
   by_cases e1:t - 1=0
   · simp only [decide_eq_true e1,cond_true,Option.bind_some,JO.run]
     cases o <;> rfl
   · simp only [decide_eq_false e1,cond_false,Option.bind_some,JO.run]
     cases w <;> cases o <;> rfl
theorem isInterrupted_i (c:DCore):F_impl_isInterrupted c=some (c.Waits && c.On):=by
 unfold F_impl_isInterrupted
 cases c.Waits <;> rfl
end Go.Proofs.Ytbanbjdcgdmkaaa
namespace Go.Proofs.Ytbanbjdcgdmkaaa
set_option linter.all false
theorem changed_i {xs:List Int} {a w:Int} (h:xs.length≤1048576) (h0:0≤a) (h1:a<(xs.length:Int)):F_impl_changed xs a w=some (xs.set a.toNat w):=by
 unfold F_impl_changed
 rw [copied_eq h,Option.bind_some,grd_t ⟨h0,h1⟩]
theorem nextPlace_i {pc:Int} (h0:0≤pc) (h1:pc≤63):F_impl_nextPlace pc=some ((pc+1) % 64):=by
 unfold F_impl_nextPlace
 rw [w64_in (by omega) (by omega),Int.tmod_eq_emod_of_nonneg (by omega)]
theorem wentOn_i {b:DBare} (h0:0≤b.C.Pc) (h1:b.C.Pc≤63):F_impl_wentOn b=some (M.with_ b (M.go b.C)):=by
 unfold F_impl_wentOn
 rw [nextPlace_i h0 h1]; rfl
section
variable {b : DBare} {op a n : Int}
theorem wo_i (hb:KOk b) (rs ro v ti on m i ou):F_impl_wentOn ⟨⟨rs,b.C.Pc,ro,v,b.C.Saved,b.C.SavedUser,b.C.Cause,b.C.Bad,ti,b.C.Waits,b.C.User,on,b.C.Stopped⟩,m,i,ou⟩=some ⟨⟨rs,(b.C.Pc+1) % 64,ro,v,b.C.Saved,b.C.SavedUser,b.C.Cause,b.C.Bad,ti,b.C.Waits,b.C.User,on,b.C.Stopped⟩,m,i,ou⟩ :=
 wentOn_i (b:=⟨⟨rs,b.C.Pc,ro,v,b.C.Saved,b.C.SavedUser,b.C.Cause,b.C.Bad,ti,b.C.Waits,b.C.User,on,b.C.Stopped⟩,m,i,ou⟩) hb.pc.1 hb.pc.2
theorem wm_i (hb:KOk b) (m):F_impl_wentOn ⟨b.C,m,b.In,b.Out⟩=some ⟨M.go b.C,m,b.In,b.Out⟩:=wentOn_i (b:=⟨b.C,m,b.In,b.Out⟩) hb.pc.1 hb.pc.2
theorem comesIn_i {k:Int} (h0:0≤k) (h1:k<4):F_impl_comesIn b k=some (M.cin b k):=by
 unfold F_impl_comesIn M.cin
 by_cases e1:k=1
 · rw [decide_eq_true e1]; rfl
 by_cases e2:k=2
 · rw [decide_eq_false e1,decide_eq_true e2]; rfl
 by_cases e3:k=3
 · rw [decide_eq_false e1,decide_eq_false e2,decide_eq_true e3]; rfl
 rw [decide_eq_false e1,decide_eq_false e2,decide_eq_false e3]
 simp only [cond_false]
 cases hi:b.In with
 | nil=>rfl
 | cons x xs=>rw [decide_eq_false (by simp only [List.length_cons]; omega),cond_false,grd_t ⟨by omega,by simp only [List.length_cons]; omega⟩]; rfl
theorem rest_eq {xs:List Int}:List.take (Int.toNat ((List.length xs:Nat):Int) - Int.toNat (1:Int)) (List.drop (Int.toNat (1:Int)) xs)=xs.drop 1:=by
 rw [show Int.toNat (1:Int)=1 from rfl]
 exact List.take_of_length_le (by simp)
theorem tookIn_i (hb:KOk b) (a0:0≤a) (a1:a≤3) (n0:0≤n):F_impl_tookIn b ⟨op,a,n⟩=some ⟨M.put b.C a (M.cin b (n % 4)),b.Mem,M.rest b.In (n % 4),b.Out⟩:=by
 unfold F_impl_tookIn
 simp only [tmod4 n0]
 rw [comesIn_i (by omega) (by omega),Option.bind_some,changed_i (by have:=hb.regs; omega) a0 (hb.gA a0 a1).2,Option.bind_some,rest_eq]
 simp only [M.rest]
 by_cases h:n % 4=0
 · rw [decide_eq_true h]
   cases hi:b.In with
   | nil=>rfl
   | cons x xs=>rw [decide_eq_true (by simp only [List.length_cons]; omega),cond_true,cond_true,grd_t ⟨by omega,by simp only [List.length_cons]; omega,by omega⟩]; rfl
 · rw [decide_eq_false h]; rfl
theorem wentOut_i {xs:List Int} {w:Int} (h:xs.length≤30):F_impl_wentOut xs w=some (bif decide (xs.length<30) then xs ++ [w] else xs):=by
 unfold F_impl_wentOut
 by_cases e:xs.length<30
 · rw [decide_eq_false (show ¬ (30:Int)≤((xs.length:Nat):Int) by omega),decide_eq_true e,cond_false,copied_eq (by omega),Option.bind_some,grd_t ⟨by simp only [List.length_cons,List.length_nil]; omega,by simp only [List.length_cons,List.length_nil]; omega⟩]; rfl
 · rw [decide_eq_true (show (30:Int)≤((xs.length:Nat):Int) by omega),decide_eq_false e]; rfl
theorem rootFrom_i {w:Int} (h:0≤w):F_impl_rootFrom w=some (M.root w):=by
 unfold F_impl_rootFrom
 rw [Int.tmod_eq_emod_of_nonneg h,pageOk_i]
 simp only [Option.bind_some,M.root,M.inR]
 by_cases e:w % 16<8
 · rw [decide_eq_true e,decide_eq_true (show 0≤w % 16 by omega),decide_eq_true (show w % 16≤7 by omega)]; rfl
 · rw [decide_eq_false e,decide_eq_false (show ¬ w % 16≤7 by omega),Bool.and_false]; rfl
theorem didKernel_i (hb:KOk b) (o0:0≤op) (o1:op≤15) (a0:0≤a) (a1:a≤3) (n0:0≤n) (hk:M.kern op=true):F_impl_didKernel b ⟨op,a,n⟩=some (M.kdo b ⟨op,a,n⟩):=by
 have g1:=hb.reg a0 (by omega)
 unfold F_impl_didKernel
 rw [grd_t (hb.gA a0 a1)]
 simp only [show b.C.Regs.getD a.toNat default=M.reg b.C a from rfl]
 rcases op_cases o0 o1 with e | e | e | e | e | e | e | e | e | e | e | e | e | e | e | e <;> subst e <;> first | (exact absurd hk (by decide)) | simp only [Int.reduceEq,decide_true,decide_false,cond_true,cond_false,Option.bind_some,JO.run,F_impl_didKernel_j1,M.kdo]
 · rfl
 · rw [rootFrom_i g1.1]
   simp only [Option.bind_some,JO.run,F_impl_didKernel_j1]
   rw [wo_i hb]; rfl
 · simp only [Int.tmod_eq_emod_of_nonneg g1.1]
   rw [wo_i hb]; rfl
 · rw [wo_i hb]; rfl
 · rfl
 · simp only [Int.tmod_eq_emod_of_nonneg n0]
   rw [wo_i hb]; rfl
 · rw [wentOut_i hb.out]
   simp only [Option.bind_some,JO.run,F_impl_didKernel_j1]
   rw [wo_i hb]; rfl
 · rw [tookIn_i hb a0 a1 n0]
   simp only [Option.bind_some,JO.run,F_impl_didKernel_j1,M.put]
   rw [wo_i hb]; rfl
theorem kernel_s (hb:KOk b) (o0:0≤op) (o1:op≤15) (a0:0≤a) (a1:a≤3) (n0:0≤n) (hk:M.kern op=true):F_spec_l3Kernel b.C b.In b.Out ⟨op,a,n⟩=some ((M.kdo b ⟨op,a,n⟩).C,(M.kdo b ⟨op,a,n⟩).In,(M.kdo b ⟨op,a,n⟩).Out):=by
 have g1:=hb.reg a0 (by omega)
 have hp:=hb.pc
 have ho:=hb.out
 unfold F_spec_l3Kernel F_spec_l3Kernel_j2
 rw [w64_in (z:=b.C.Pc+1) (by omega) (by omega),Int.tmod_eq_emod_of_nonneg (a:=b.C.Pc+1) (by omega)]
 simp only [tmod4 n0,show b.C.Regs.getD a.toNat default=M.reg b.C a from rfl,rest_eq,Int.tmod_eq_emod_of_nonneg g1.1,Int.tmod_eq_emod_of_nonneg n0]
 simp only [grd_t (hb.gA a0 a1)]
 rcases op_cases o0 o1 with e | e | e | e | e | e | e | e | e | e | e | e | e | e | e | e <;> subst e <;> first | (exact absurd hk (by decide)) | simp only [Int.reduceEq,decide_true,decide_false,cond_true,cond_false,Option.bind_some,JO.run,F_spec_l3Kernel_j1,M.kdo]
 · rfl
 · simp only [M.root]
   cases decide (M.reg b.C a % 16<8) <;> rfl
 · rfl
 · rfl
 · rfl
 · rfl
 · by_cases e:b.Out.length<30
   · rw [decide_eq_true (show ((b.Out.length:Nat):Int)<30 by omega),decide_eq_true e,cond_true,grd_t ⟨by simp only [List.length_cons,List.length_nil]; omega,by simp only [List.length_cons,List.length_nil]; omega⟩]; rfl
   · rw [decide_eq_false (show ¬ ((b.Out.length:Nat):Int)<30 by omega),decide_eq_false e]; rfl
 · rw [grd_t ⟨by omega,by omega⟩]
   simp only [M.cin,M.rest]
   by_cases h:n % 4=0
   · rw [h]
     simp only [decide_true,cond_true,Int.reduceEq,decide_false,cond_false]
     cases hi:b.In with
     | nil=>rfl
     | cons x xs=>rw [decide_eq_true (by simp only [List.length_cons]; omega),cond_true,grd_t ⟨by omega,by simp only [List.length_cons]; omega⟩,grd_t ⟨by omega,by simp only [List.length_cons]; omega,by omega⟩]; rfl
   · rw [decide_eq_false h]
     simp only [cond_false,Option.bind_some,JO.run]
     rcases (show n % 4=1∨n % 4=2∨n % 4=3 by omega) with e | e | e <;> rw [e] <;> rfl
end
end Go.Proofs.Ytbanbjdcgdmkaaa
namespace Go.Proofs.Ytbanbjdcgdmkaaa
set_option linter.all false
section
variable {b : DBare} {op a n : Int}
theorem jumped_i (hb:KOk b) (a0:0≤a) (a1:a≤3) (ho:op=5∨op=6):F_impl_jumped b ⟨op,a,n⟩=some (M.with_ b (M.plain b.C ⟨op,a,n⟩)):=by
 unfold F_impl_jumped
 rcases ho with rfl | rfl
 · rfl
 · simp only [decide_true,cond_true]
   rw [grd_t (hb.gA a0 a1),show b.C.Regs.getD a.toNat default=M.reg b.C a from rfl]
   by_cases h:M.reg b.C a=0
   · rw [decide_eq_true h,wentOn_i hb.pc.1 hb.pc.2]
     simp only [M.plain,decide_eq_true h]; rfl
   · simp only [M.plain,decide_eq_false h]; rfl
theorem counted_i (hb:KOk b) (a0:0≤a) (a1:a≤3) (n0:0≤n):F_impl_counted b.C.Regs ⟨op,a,n⟩=some (bif decide (op=2) then (M.reg b.C a+M.reg b.C (n % 4)) % 4096 else bif decide (op=15) then (M.reg b.C a - M.reg b.C (n % 4)+4096) % 4096 else n):=by
 unfold F_impl_counted
 have g1:=hb.reg a0 (by omega)
 have g2:=hb.reg (k:=n % 4) (by omega) (by omega)
 simp only [tmod4 n0]
 rw [grd_t (hb.gA (by omega) (by omega)),grd_t (hb.gA a0 a1),grd_t (hb.gA a0 a1),show b.C.Regs.getD a.toNat default=M.reg b.C a from rfl,show b.C.Regs.getD (n % 4).toNat default=M.reg b.C (n % 4) from rfl,
  w64_in (z:=M.reg b.C a+M.reg b.C (n % 4)) (by omega) (by omega),w64_in (z:=M.reg b.C a - M.reg b.C (n % 4)) (by omega) (by omega),w64_in (z:=M.reg b.C a - M.reg b.C (n % 4)+4096) (by omega) (by omega),Int.tmod_eq_emod_of_nonneg (by omega),Int.tmod_eq_emod_of_nonneg (by omega)]
 cases decide (op=2) <;> cases decide (op=15) <;> rfl
theorem withRegister_i (hb:KOk b) (a0:0≤a) (a1:a≤3) (w:Int):F_impl_withRegister b a w=some (M.with_ b (M.go (M.put b.C a w))):=by
 unfold F_impl_withRegister
 rw [changed_i (by have:=hb.regs; omega) a0 (hb.gA a0 a1).2]
 simp only [Option.bind_some]
 rw [wo_i hb]; rfl
theorem didOpen_i (hb:KOk b) (o0:0≤op) (o1:op≤15) (a0:0≤a) (a1:a≤3) (n0:0≤n) (hk:M.kern op=false) (h3:op≠3) (h4:op≠4):F_impl_didOpen b ⟨op,a,n⟩=some (M.with_ b (M.plain b.C ⟨op,a,n⟩)):=by
 unfold F_impl_didOpen
 rcases op_cases o0 o1 with e | e | e | e | e | e | e | e | e | e | e | e | e | e | e | e <;> subst e <;> first | (exact absurd hk (by decide)) | (exact absurd rfl h3) | (exact absurd rfl h4) | simp only [Int.reduceEq,decide_true,decide_false,cond_true,cond_false,Option.bind_some,JO.run,F_impl_didOpen_j3]
 · rw [counted_i hb a0 a1 n0,Option.bind_some,withRegister_i hb a0 a1]; rfl
 · rw [counted_i hb a0 a1 n0,Option.bind_some,withRegister_i hb a0 a1]; rfl
 · rw [jumped_i hb a0 a1 (.inl rfl)]; rfl
 · rw [jumped_i hb a0 a1 (.inr rfl)]; rfl
 · rw [nextPlace_i hb.pc.1 hb.pc.2]; rfl
 · rw [counted_i hb a0 a1 n0,Option.bind_some,withRegister_i hb a0 a1]; rfl
theorem didInCore_i (hb:KOk b) {i:DIns} (hi:M.insOk i=true) (h3:i.Op≠3) (h4:i.Op≠4):F_impl_didInCore b i=some (M.did b i):=by
 unfold F_impl_didInCore
 rw [insKernel_i hi,Option.bind_some]
 unfold M.did
 rw [decide_eq_false h3,decide_eq_false h4]
 obtain ⟨op,a,n⟩:=i
 simp only [M.insOk,Bool.and_eq_true,M.inR_iff] at hi
 obtain ⟨⟨⟨o0,o1⟩,a0,a1⟩,n0,n1⟩:=hi
 cases hk:M.kern op with
 | false=>simp only [Bool.not_false,cond_true]; rw [didOpen_i hb o0 o1 a0 a1 n0 hk h3 h4]; rfl
 | true =>
  simp only [Bool.not_true,cond_false,cond_true]
  cases b.C.User with
  | true=>rfl
  | false=>simp only [cond_false]; rw [didKernel_i hb o0 o1 a0 a1 n0 hk]; rfl
end
end Go.Proofs.Ytbanbjdcgdmkaaa
namespace Go.Proofs.Ytbanbjdcgdmkaaa
set_option linter.all false
namespace M
def zeroC:DCore:=⟨[],0,0,0,0,false,0,0,0,false,false,false,false⟩
def zero:DBare:=⟨zeroC,[],[],[]⟩
def bareStep (b:DBare):DBare:=bif bareOk b then step b else zero
end M
section
variable {b : DBare} {op a n : Int}
theorem BOk.tick (hb:BOk b):BOk (M.with_ b (M.tick b.C)):=by
 have ht:=hb.timer
 unfold M.tick
 by_cases e:b.C.Timer=0
 · rw [decide_eq_true e]; exact ⟨hb.regs,hb.words,hb.pc,hb.vec,hb.sav,hb.bad,hb.root,hb.cause,hb.timer,hb.mem,hb.inn,hb.inw,hb.out,hb.outw⟩
 · rw [decide_eq_false e]; exact ⟨hb.regs,hb.words,hb.pc,hb.vec,hb.sav,hb.bad,hb.root,hb.cause,⟨by show 0≤b.C.Timer - 1; omega,by show b.C.Timer - 1≤4095; omega⟩,hb.mem,hb.inn,hb.inw,hb.out,hb.outw⟩
theorem mem_word (hb:BOk b) {z:Int} (h0:0≤z) (h1:z<64):0≤b.Mem.getD z.toNat default∧b.Mem.getD z.toNat default≤4095:=wordsOk_get (memOk_words hb.mem) (by have:=hb.len; omega)
theorem walk_neg (mem:List Int) (root addr:Int) (user write:Bool):decide (M.walk mem root addr user write<0)=decide (M.walk mem root addr user write = -1):=by
 by_cases h:M.walk mem root addr user write = -1
 · rw [decide_eq_true h,decide_eq_true (by omega)]
 · have:=walk_lt _ _ _ _ _ h
   rw [decide_eq_false h,decide_eq_false (by omega)]
theorem kdo_mem (b:DBare) (i:DIns):(M.kdo b i).Mem=b.Mem:=by
 unfold M.kdo
 cases decide (i.Op=0) <;> cases decide (i.Op=8) <;> cases decide (i.Op=9) <;> cases decide (i.Op=10) <;> cases decide (i.Op=11) <;> cases decide (i.Op=12) <;> cases decide (i.Op=13) <;> rfl
theorem BOk.trap (hb:BOk b) {src cause bad:Int} (h1:0≤src∧src≤63) (h2:0≤cause∧cause≤4) (h3:0≤bad∧bad≤63):BOk (M.with_ b (M.trap b.C src cause bad)) :=
 ⟨hb.regs,hb.words,hb.vec,hb.vec,h1,h3,hb.root,h2,hb.timer,hb.mem,hb.inn,hb.inw,hb.out,hb.outw⟩
theorem BOk.at_ (hb:BOk b) {pc:Int} (h:0≤pc∧pc≤63):BOk (M.with_ b (M.at_ b.C pc)) :=
 ⟨hb.regs,hb.words,h,hb.vec,hb.sav,hb.bad,hb.root,hb.cause,hb.timer,hb.mem,hb.inn,hb.inw,hb.out,hb.outw⟩
theorem BOk.go (hb:BOk b):BOk (M.with_ b (M.go b.C)):=hb.at_ (by omega)
theorem BOk.put (hb:BOk b) {w:Int} (h:0≤w∧w≤4095):BOk (M.with_ b (M.put b.C a w)) :=
 ⟨by show (b.C.Regs.set _ _).length=4; rw [List.length_set]; exact hb.regs,wordsOk_set hb.words h.1 h.2,hb.pc,hb.vec,hb.sav,hb.bad,hb.root,hb.cause,hb.timer,hb.mem,hb.inn,hb.inw,hb.out,hb.outw⟩
theorem wordsOk_app {xs:List Int} {w:Int} (h:M.wordsOk xs=true) (hw:0≤w∧w≤4095):M.wordsOk (xs ++ [w])=true:=by
 refine List.all_eq_true.2 fun x hx=>?_
 rcases List.mem_append.1 hx with h1 | h1
 · exact List.all_eq_true.1 h x h1
 · rw [List.mem_singleton.1 h1]; exact M.inR_iff.2 hw
theorem wordsOk_drop {xs:List Int} (h:M.wordsOk xs=true):M.wordsOk (xs.drop 1)=true:=List.all_eq_true.2 fun x hx=>List.all_eq_true.1 h x (List.mem_of_mem_drop hx)
theorem first_ok {xs:List Int} (h:M.wordsOk xs=true):0≤M.first xs∧M.first xs≤4095:=by
 cases xs with
 | nil=>exact ⟨by decide,by decide⟩
 | cons x xs=>exact M.inR_iff.1 (List.all_eq_true.1 h x (List.mem_cons_self ..))
theorem cin_ok (hb:BOk b) {k:Int}:0≤M.cin b k∧M.cin b k≤4095:=by
 have h1:=hb.cause; have h2:=hb.bad; have h3:=hb.sav; have h4:=first_ok hb.inw
 unfold M.cin
 cases decide (k=1) <;> cases decide (k=2) <;> cases decide (k=3) <;> simp only [cond_true,cond_false] <;> omega
theorem kdo_ok (hb:BOk b) (a0:0≤a) (a1:a≤3):BOk (M.kdo b ⟨op,a,n⟩):=by
 have g:=hb.reg a0 (by omega)
 unfold M.kdo
 simp only
 cases decide (op=0) with
 | true=>exact ⟨hb.regs,hb.words,hb.pc,hb.vec,hb.sav,hb.bad,hb.root,hb.cause,hb.timer,hb.mem,hb.inn,hb.inw,hb.out,hb.outw⟩
 | false =>
 cases decide (op=8) with
 | true =>
  have hr:-1≤M.root (M.reg b.C a)∧M.root (M.reg b.C a)≤7:=by
   unfold M.root
   by_cases e:M.reg b.C a % 16<8
   · rw [decide_eq_true e,cond_true]; omega
   · rw [decide_eq_false e,cond_false]; omega
  exact BOk.go (b:=M.with_ b ⟨b.C.Regs,b.C.Pc,M.root (M.reg b.C a),b.C.Vector,b.C.Saved,b.C.SavedUser,b.C.Cause,b.C.Bad,b.C.Timer,b.C.Waits,b.C.User,b.C.On,b.C.Stopped⟩) ⟨hb.regs,hb.words,hb.pc,hb.vec,hb.sav,hb.bad,hr,hb.cause,hb.timer,hb.mem,hb.inn,hb.inw,hb.out,hb.outw⟩
 | false =>
 cases decide (op=9) with
 | true =>
  exact BOk.go (b:=M.with_ b ⟨b.C.Regs,b.C.Pc,b.C.Root,M.reg b.C a % 64,b.C.Saved,b.C.SavedUser,b.C.Cause,b.C.Bad,b.C.Timer,b.C.Waits,b.C.User,b.C.On,b.C.Stopped⟩) ⟨hb.regs,hb.words,hb.pc,by show 0≤M.reg b.C a % 64∧M.reg b.C a % 64≤63; omega,hb.sav,hb.bad,hb.root,hb.cause,hb.timer,hb.mem,hb.inn,hb.inw,hb.out,hb.outw⟩
 | false =>
 cases decide (op=10) with
 | true =>
  exact BOk.go (b:=M.with_ b ⟨b.C.Regs,b.C.Pc,b.C.Root,b.C.Vector,b.C.Saved,b.C.SavedUser,b.C.Cause,b.C.Bad,M.reg b.C a,b.C.Waits,b.C.User,b.C.On,b.C.Stopped⟩) ⟨hb.regs,hb.words,hb.pc,hb.vec,hb.sav,hb.bad,hb.root,hb.cause,g,hb.mem,hb.inn,hb.inw,hb.out,hb.outw⟩
 | false =>
 cases decide (op=11) with
 | true=>exact ⟨hb.regs,hb.words,hb.sav,hb.vec,hb.sav,hb.bad,hb.root,hb.cause,hb.timer,hb.mem,hb.inn,hb.inw,hb.out,hb.outw⟩
 | false =>
 cases decide (op=12) with
 | true =>
  exact BOk.go (b:=M.with_ b ⟨b.C.Regs,b.C.Pc,b.C.Root,b.C.Vector,b.C.Saved,b.C.SavedUser,b.C.Cause,b.C.Bad,b.C.Timer,b.C.Waits,b.C.User,decide (n % 2=1),b.C.Stopped⟩) ⟨hb.regs,hb.words,hb.pc,hb.vec,hb.sav,hb.bad,hb.root,hb.cause,hb.timer,hb.mem,hb.inn,hb.inw,hb.out,hb.outw⟩
 | false =>
 have h:=hb.go
 cases decide (op=13) with
 | true =>
  simp only [cond_true,cond_false]
  by_cases e:b.Out.length<30
  · rw [decide_eq_true e]
    exact ⟨h.regs,h.words,h.pc,h.vec,h.sav,h.bad,h.root,h.cause,h.timer,h.mem,h.inn,h.inw,by show (b.Out ++ [_]).length≤30; simp only [List.length_append,List.length_cons,List.length_nil]; omega,wordsOk_app hb.outw g⟩
  · rw [decide_eq_false e]; exact h
 | false =>
  simp only [cond_false]
  have h:=(hb.put (a:=a) (cin_ok hb (k:=n % 4))).go
  refine ⟨h.regs,h.words,h.pc,h.vec,h.sav,h.bad,h.root,h.cause,h.timer,h.mem,?_,?_,h.out,h.outw⟩
  · show (M.rest b.In (n % 4)).length≤30
    have:=hb.inn
    unfold M.rest
    cases decide (n % 4=0) <;> simp only [cond_true,cond_false,List.length_drop] <;> omega
  · show M.wordsOk (M.rest b.In (n % 4))=true
    unfold M.rest
    cases decide (n % 4=0)
    · exact hb.inw
    · exact wordsOk_drop hb.inw
theorem plain_ok (hb:BOk b) (a0:0≤a) (a1:a≤3) (n0:0≤n) (n1:n≤63):BOk (M.with_ b (M.plain b.C ⟨op,a,n⟩)):=by
 have hp:=hb.pc
 unfold M.plain
 simp only
 cases decide (op=1) with
 | true=>exact (hb.put (a:=a) (w:=n) (by omega)).go
 | false =>
 cases decide (op=2) with
 | true=>exact (hb.put (a:=a) (w:=(M.reg b.C a+M.reg b.C (n % 4)) % 4096) (by omega)).go
 | false =>
 cases decide (op=15) with
 | true=>exact (hb.put (a:=a) (w:=(M.reg b.C a - M.reg b.C (n % 4)+4096) % 4096) (by omega)).go
 | false =>
 cases decide (op=5) with
 | true=>exact hb.at_ ⟨n0,n1⟩
 | false =>
 cases decide (op=6) with
 | true =>
  cases decide (M.reg b.C a=0) with
  | true=>exact hb.go
  | false=>exact hb.at_ ⟨n0,n1⟩
 | false=>exact hb.trap (src:=(b.C.Pc+1) % 64) (cause:=1) (bad:=0) (by omega) (by omega) (by omega)
theorem mdo_ok (hb:BOk b) (a0:0≤a) (a1:a≤3) (n0:0≤n) (ho:op=3∨op=4):BOk (M.mdo b ⟨op,a,n⟩):=by
 have g:=hb.reg a0 (by omega)
 unfold M.mdo
 simp only
 by_cases h:M.walk b.Mem b.C.Root (M.reg b.C (n % 4) % 64) b.C.User (decide (op=4)) = -1
 · rw [decide_eq_true h]
   exact hb.trap (src:=b.C.Pc) (cause:=2) (bad:=M.reg b.C (n % 4) % 64) hb.pc (by omega) (by omega)
 · have hw:=walk_lt _ _ _ _ _ h
   rw [decide_eq_false h]
   rcases ho with rfl | rfl
   · simp only [Int.reduceEq,decide_false] at hw
     exact (hb.put (a:=a) (mem_word hb hw.1 hw.2)).go
   · have h2:=hb.go
     refine ⟨h2.regs,h2.words,h2.pc,h2.vec,h2.sav,h2.bad,h2.root,h2.cause,h2.timer,?_,h2.inn,h2.inw,h2.out,h2.outw⟩
     show M.memOk (b.Mem.set _ _)=true
     simp only [M.memOk,List.length_set,hb.len,decide_true,Bool.true_and]
     exact wordsOk_set (memOk_words hb.mem) g.1 g.2
theorem did_ok (hb:BOk b) {i:DIns} (hi:M.insOk i=true):BOk (M.did b i):=by
 obtain ⟨op,a,n⟩:=i
 simp only [M.insOk,Bool.and_eq_true,M.inR_iff] at hi
 obtain ⟨⟨⟨o0,o1⟩,a0,a1⟩,n0,n1⟩:=hi
 unfold M.did
 simp only
 cases M.kern op with
 | true =>
  cases b.C.User with
  | true=>exact hb.trap (src:=b.C.Pc) (cause:=3) (bad:=0) hb.pc (by omega) (by omega)
  | false=>exact kdo_ok hb a0 a1
 | false =>
  by_cases h3:op=3
  · rw [decide_eq_true h3]; exact mdo_ok hb a0 a1 n0 (.inl h3)
  · by_cases h4:op=4
    · rw [decide_eq_true h4,Bool.or_true]; exact mdo_ok hb a0 a1 n0 (.inr h4)
    · rw [decide_eq_false h3,decide_eq_false h4]; exact plain_ok hb a0 a1 n0 n1
theorem step_ok (hb:BOk b):BOk (M.step b):=by
 have ht:=hb.tick
 unfold M.step
 cases b.C.Stopped with
 | true=>exact hb
 | false =>
 cases (M.tick b.C).Waits && (M.tick b.C).On with
 | true => 
  have hq:BOk (M.with_ b (M.quiet (M.tick b.C))):=⟨ht.regs,ht.words,ht.pc,ht.vec,ht.sav,ht.bad,ht.root,ht.cause,ht.timer,ht.mem,ht.inn,ht.inw,ht.out,ht.outw⟩
  exact hq.trap (src:=(M.tick b.C).Pc) (cause:=4) (bad:=0) ht.pc (by omega) (by omega)
 | false =>
 simp only [cond_false]
 by_cases h:M.walk b.Mem (M.tick b.C).Root (M.tick b.C).Pc (M.tick b.C).User false = -1
 · rw [decide_eq_true h]
   exact ht.trap (src:=(M.tick b.C).Pc) (cause:=2) (bad:=(M.tick b.C).Pc) ht.pc (by omega) ht.pc
 · have hw:=walk_lt _ _ _ _ _ h
   have hm:=mem_word hb hw.1 hw.2
   rw [decide_eq_false h]
   exact did_ok ht (ins_ok hm.1 hm.2)
theorem BOk.small (hb:BOk b):SmallB b:=⟨⟨by have:=hb.regs; omega⟩,by have:=hb.len; omega,by have:=hb.inn; omega,by have:=hb.out; omega⟩
end
theorem zero_small:SmallB M.zero:=⟨⟨by decide⟩,by decide,by decide,by decide⟩
end Go.Proofs.Ytbanbjdcgdmkaaa
namespace Go.Proofs.Ytbanbjdcgdmkaaa
set_option linter.all false
section
variable {b : DBare} {op a n : Int}
theorem loaded_i (hb:BOk b) (a0:0≤a) (a1:a≤3) (n0:0≤n):F_impl_loaded b ⟨3,a,n⟩=some (M.mdo b ⟨3,a,n⟩):=by
 unfold F_impl_loaded M.mdo
 have hl:=hb.len
 rw [addressOf_i hb.k n0]
 simp only [Option.bind_some,walk_i (mem:=b.Mem) (by omega)]
 simp only [decide_true,Int.reduceEq,decide_false]
 by_cases h:M.walk b.Mem b.C.Root (M.reg b.C (n % 4) % 64) b.C.User false = -1
 · rw [decide_eq_true h]; rfl
 · have hw:=walk_lt _ _ _ _ _ h
   rw [decide_eq_false h]
   simp only [cond_false,cond_true]
   rw [grd_t ⟨hw.1,by omega⟩,withRegister_i hb.k a0 a1]; rfl
theorem stored_i (hb:BOk b) (a0:0≤a) (a1:a≤3) (n0:0≤n):F_impl_stored b ⟨4,a,n⟩=some (M.mdo b ⟨4,a,n⟩):=by
 unfold F_impl_stored M.mdo
 have hl:=hb.len
 rw [addressOf_i hb.k n0]
 simp only [Option.bind_some,walk_i (mem:=b.Mem) (by omega)]
 simp only [decide_true,Int.reduceEq,decide_false]
 by_cases h:M.walk b.Mem b.C.Root (M.reg b.C (n % 4) % 64) b.C.User true = -1
 · rw [decide_eq_true h]; rfl
 · have hw:=walk_lt _ _ _ _ _ h
   rw [decide_eq_false h]
   simp only [cond_false]
   rw [grd_t (hb.k.gA a0 a1),changed_i (by omega) hw.1 (by omega)]
   simp only [Option.bind_some]
   rw [wm_i hb.k]; rfl
theorem did_i (hb:BOk b) {i:DIns} (hi:M.insOk i=true):F_impl_did b i=some (M.did b i):=by
 unfold F_impl_did
 have hi2:=hi
 obtain ⟨op,a,n⟩:=i
 simp only [M.insOk,Bool.and_eq_true,M.inR_iff] at hi2
 obtain ⟨⟨⟨o0,o1⟩,a0,a1⟩,n0,n1⟩:=hi2
 by_cases h3:op=3
 · subst h3
   rw [loaded_i hb a0 a1 n0]; rfl
 · by_cases h4:op=4
   · subst h4
     rw [stored_i hb a0 a1 n0]; rfl
   · simp only [decide_eq_false h3,decide_eq_false h4,cond_false,Option.bind_some,JO.run]
     rw [didInCore_i hb.k hi h3 h4]; rfl
theorem stepped_i (hb:BOk b):F_impl_stepped b=some (M.step b):=by
 have hl:=hb.len
 have ht:=hb.tick
 unfold F_impl_stepped M.step
 cases hs:b.C.Stopped with
 | true=>rfl
 | false =>
  simp only [cond_false,ticked_i hb.timer.1 hb.timer.2,Option.bind_some,isInterrupted_i]
  cases (M.tick b.C).Waits && (M.tick b.C).On with
  | true=>rfl
  | false =>
   simp only [cond_false]
   rw [walk_i (by omega),Option.bind_some]
   by_cases h:M.walk b.Mem (M.tick b.C).Root (M.tick b.C).Pc (M.tick b.C).User false = -1
   · rw [decide_eq_true h]; rfl
   · have hw:=walk_lt _ _ _ _ _ h
     have hm:=mem_word hb hw.1 hw.2
     rw [decide_eq_false h,cond_false,cond_false,grd_t ⟨hw.1,by omega⟩,insFrom_i hm.1 hm.2,Option.bind_some]
     show Option.bind (F_impl_did (M.with_ b (M.tick b.C)) _) _=_
     rw [did_i ht (ins_ok hm.1 hm.2)]; rfl
theorem copiedBare_i {b:DBare} (h:SmallB b):F_impl_copiedBare b=some b:=by
 unfold F_impl_copiedBare
 rw [copied_eq h.c.regs,copied_eq h.mem,copied_eq h.i,copied_eq h.o]; rfl
theorem bareStep_i {b:DBare} (h:SmallB b):F_impl_BareStep b=some (M.bareStep b):=by
 unfold F_impl_BareStep M.bareStep
 rw [bareOk_i h,Option.bind_some]
 cases hok:M.bareOk b with
 | false=>rfl
 | true =>
  have hb:=bOk_iff.1 hok
  simp only [Bool.not_true,cond_false,cond_true]
  rw [stepped_i hb,Option.bind_some,copiedBare_i (step_ok hb).small]; rfl
end
end Go.Proofs.Ytbanbjdcgdmkaaa
namespace Go.Proofs.Ytbanbjdcgdmkaaa
set_option linter.all false
section
variable {b : DBare} {op a n : Int}
theorem trap_s (c:DCore) (src cause bad:Int):F_spec_l3Trap c src cause bad=some (M.trap c src cause bad):=rfl
theorem plain_s (hb:KOk b) (o0:0≤op) (o1:op≤15) (a0:0≤a) (a1:a≤3) (n0:0≤n) (hk:M.kern op=false) (h3:¬ op=3) (h4:¬ op=4):F_spec_l3Plain b.C ⟨op,a,n⟩=some (M.plain b.C ⟨op,a,n⟩):=by
 have g1:=hb.reg a0 (by omega)
 have g2:=hb.reg (k:=n % 4) (by omega) (by omega)
 have hp:=hb.pc
 unfold F_spec_l3Plain
 rw [w64_in (z:=b.C.Pc+1) (by omega) (by omega),Int.tmod_eq_emod_of_nonneg (a:=b.C.Pc+1) (by omega)]
 simp only [tmod4 n0,show b.C.Regs.getD a.toNat default=M.reg b.C a from rfl,show b.C.Regs.getD (n % 4).toNat default=M.reg b.C (n % 4) from rfl]
 simp only [grd_t (hb.gA a0 a1),grd_t (hb.gA (a:=n % 4) (by omega) (by omega))]
 rw [w64_in (z:=M.reg b.C a+M.reg b.C (n % 4)) (by omega) (by omega),w64_in (z:=M.reg b.C a+4096) (by omega) (by omega),w64_in (z:=M.reg b.C a+4096 - M.reg b.C (n % 4)) (by omega) (by omega),Int.tmod_eq_emod_of_nonneg (a:=M.reg b.C a+M.reg b.C (n % 4)) (by omega),Int.tmod_eq_emod_of_nonneg (a:=M.reg b.C a+4096 - M.reg b.C (n % 4)) (by omega),show M.reg b.C a+4096 - M.reg b.C (n % 4)=M.reg b.C a - M.reg b.C (n % 4)+4096 by omega]
 rcases op_cases o0 o1 with e | e | e | e | e | e | e | e | e | e | e | e | e | e | e | e <;> subst e <;> first | (exact absurd hk (by decide)) | (exact absurd rfl h3) | (exact absurd rfl h4) | simp only [Int.reduceEq,decide_true,decide_false,cond_true,cond_false,Option.bind_some,JO.run,F_spec_l3Plain_j1,M.plain,trap_s]
 · rfl
 · rfl
 · rfl
 · cases decide (M.reg b.C a=0) <;> rfl
 · rfl
end
end Go.Proofs.Ytbanbjdcgdmkaaa
namespace Go.Proofs.Ytbanbjdcgdmkaaa
set_option linter.all false
theorem walk_s {mem:List Int} {root addr:Int} {user write:Bool} (hl:mem.length≤9223372036854775806):F_spec_Walk mem root addr user write=some (M.walk mem root addr user write):=by
 unfold F_spec_Walk M.walk
 rw [memOk_s hl,l1In_s,l1In_s]
 cases hm:M.memOk mem with
 | false=>simp only [Option.bind_some,Bool.not_false,cond_true,Bool.false_and,cond_false]
 | true =>
  cases hr:M.inR (-1) 7 root with
  | false=>simp only [Option.bind_some,Bool.not_false,Bool.not_true,cond_true,Bool.false_and,Bool.and_false,cond_false]
  | true =>
   cases ha:M.inR 0 63 addr with
   | false=>simp only [Option.bind_some,Bool.not_false,Bool.not_true,cond_true,Bool.false_and,Bool.and_false,cond_false]
   | true =>
    have hr:=M.inR_iff.1 hr
    have ha:=M.inR_iff.1 ha
    have hlen:=memOk_len hm
    simp only [Option.bind_some,Bool.not_true,cond_true,cond_false,Bool.and_self]
    by_cases h1:root = -1
    · rw [decide_eq_true h1]; rfl
    · have e1:Int.tdiv addr 8=addr / 8:=Int.tdiv_eq_ediv_of_nonneg ha.1
      have e2:Int.tmod addr 8=addr % 8:=Int.tmod_eq_emod_of_nonneg ha.1
      rw [decide_eq_false h1,cond_false,cond_false,e1,w64_in (z:=root*8) (by omega) (by omega),w64_in (z:=addr / 8) (by omega) (by omega),w64_in (z:=root*8+addr / 8) (by omega) (by omega),grd_t ⟨by omega,by omega⟩]
      have hw:=wordsOk_get (memOk_words hm) (i:=(root*8+addr / 8).toNat) (by omega)
      rw [entryFrom_s hw.1 hw.2]
      generalize mem.getD (root*8+addr / 8).toNat default=w
      have hp:=dec_page w
      unfold F_spec_Walk_j5
      simp only [Option.bind_some,e2,M.lets]
      rw [w64_in (z:=(dec w).Page*8) (by omega) (by omega),w64_in (z:=(dec w).Page*8+addr % 8) (by omega) (by omega)]
      generalize (dec w).Page*8+addr % 8=z
      cases (dec w).There <;> cases (dec w).Write <;> cases (dec w).User <;> cases user <;> cases write <;> rfl
end Go.Proofs.Ytbanbjdcgdmkaaa
namespace Go.Proofs.Ytbanbjdcgdmkaaa
set_option linter.all false
section
variable {b : DBare} {op a n : Int}
theorem mdo_s {v2:DBare} {c:DCore} {t:Bool} (hb:BOk (M.with_ v2 c)) (a0:0≤a) (a1:a≤3) (n0:0≤n) (ho:op=3∨op=4) :
 F_spec_BareStep_j10 v2 (c,t) ⟨op,a,n⟩ ()=some (M.mdo (M.with_ v2 c) ⟨op,a,n⟩):=by
 have hl:=hb.len
 have hp:=hb.pc
 have gA:0≤a∧a<((c.Regs.length:Nat):Int):=hb.k.gA a0 a1
 have gN:0≤n % 4∧n % 4<((c.Regs.length:Nat):Int):=hb.k.gA (a:=n % 4) (by omega) (by omega)
 have g2:0≤M.reg c (n % 4)∧M.reg c (n % 4)≤4095:=hb.reg (k:=n % 4) (by omega) (by omega)
 simp only [M.with_] at hl hp
 have e:M.mdo (M.with_ v2 c) ⟨op,a,n⟩=(bif decide (M.walk v2.Mem c.Root (M.reg c (n % 4) % 64) c.User (decide (op=4)) = -1) then ⟨M.trap c c.Pc 2 (M.reg c (n % 4) % 64),v2.Mem,v2.In,v2.Out⟩
  else bif decide (op=3) then ⟨M.go (M.put c a (v2.Mem.getD (M.walk v2.Mem c.Root (M.reg c (n % 4) % 64) c.User false).toNat default)),v2.Mem,v2.In,v2.Out⟩
  else ⟨M.go c,v2.Mem.set (M.walk v2.Mem c.Root (M.reg c (n % 4) % 64) c.User true).toNat (M.reg c a),v2.In,v2.Out⟩):=rfl
 rw [e]
 unfold F_spec_BareStep_j10 F_spec_BareStep_j13
 simp only [tmod4 n0]
 rw [grd_t gN,show c.Regs.getD (n % 4).toNat default=M.reg c (n % 4) from rfl,Int.tmod_eq_emod_of_nonneg g2.1,walk_s (by omega),Option.bind_some,walk_neg]
 by_cases h:M.walk v2.Mem c.Root (M.reg c (n % 4) % 64) c.User (decide (op=4)) = -1
 · rw [decide_eq_true h]; rfl
 · have hw:=walk_lt _ _ _ _ _ h
   rw [decide_eq_false h]
   have e1:w64 (c.Pc+1)=c.Pc+1:=w64_in (by omega) (by omega)
   rw [grd_t gA,grd_t gA,grd_t ⟨hw.1,by omega⟩,grd_t ⟨hw.1,by omega⟩,e1,Int.tmod_eq_emod_of_nonneg (a:=c.Pc+1) (by omega)]
   rcases ho with rfl | rfl
   · simp only [Int.reduceEq,decide_true,decide_false,cond_true,cond_false,Option.bind_some,JO.run]; rfl
   · simp only [Int.reduceEq,decide_true,decide_false,cond_true,cond_false,Option.bind_some,JO.run]; rfl
theorem did_s {v2:DBare} {c:DCore} {t:Bool} (hb:BOk (M.with_ v2 c)) {i:DIns} (hi:M.insOk i=true) :
 (Option.bind (F_spec_InsKernel i) fun v7 =>
  cond v7
   (cond c.User
    (Option.bind (F_spec_l3Trap c c.Pc (3:Int) (0:Int)) fun v8 =>
    some (DBare.mk v8 v2.Mem v2.In v2.Out))
    (Option.bind (F_spec_l3Kernel c v2.In v2.Out i) fun v9 =>
    some (DBare.mk v9.1 v2.Mem v9.2.1 v9.2.2)))
   (Option.bind (cond (!decide (i.Op=(3:Int)))
    (cond (!decide (i.Op=(4:Int)))
     (Option.bind (F_spec_l3Plain c i) fun v14 =>
     some (.out (DBare.mk v14 v2.Mem v2.In v2.Out)))
     (some (.go ())))
    (some (.go ()))) fun j10 =>
    JO.run j10 (F_spec_BareStep_j10 v2 (c,t) i)))=some (M.did (M.with_ v2 c) i):=by
 rw [insKernel_s hi,Option.bind_some]
 obtain ⟨op,a,n⟩:=i
 simp only [M.insOk,Bool.and_eq_true,M.inR_iff] at hi
 obtain ⟨⟨⟨o0,o1⟩,a0,a1⟩,n0,n1⟩:=hi
 simp only [M.did]
 cases hk:M.kern op with
 | true =>
  simp only [cond_true]
  rw [show (M.with_ v2 c).C=c from rfl]
  cases c.User with
  | true=>rfl
  | false =>
   have k:=kernel_s hb.k o0 o1 a0 a1 n0 hk
   rw [show F_spec_l3Kernel c v2.In v2.Out ⟨op,a,n⟩=_ from k]
   simp only [cond_false,Option.bind_some]
   have km:=kdo_mem (M.with_ v2 c) ⟨op,a,n⟩
   rw [show v2.Mem=(M.kdo (M.with_ v2 c) ⟨op,a,n⟩).Mem from km.symm]
 | false =>
  simp only [cond_false]
  by_cases h3:op=3
  · rw [decide_eq_true h3]
    simp only [Bool.not_true,cond_false,Option.bind_some,JO.run,Bool.true_or,cond_true]
    rw [mdo_s hb a0 a1 n0 (.inl h3)]
  · by_cases h4:op=4
    · rw [decide_eq_false h3,decide_eq_true h4]
      simp only [Bool.not_true,Bool.not_false,cond_true,cond_false,Option.bind_some,JO.run,Bool.or_true]
      rw [mdo_s hb a0 a1 n0 (.inr h4)]
    · have k:=plain_s hb.k o0 o1 a0 a1 n0 hk h3 h4
      rw [decide_eq_false h3,decide_eq_false h4,show F_spec_l3Plain c ⟨op,a,n⟩=_ from k]
      rfl
theorem copy_s {b:DBare} (h:SmallB b):F_spec_l3Copy b=some b:=by
 have:=h.c.regs; have:=h.mem; have:=h.i; have:=h.o
 unfold F_spec_l3Copy F_spec_l3Core
 rw [grd_t ⟨by simp only [List.length_nil]; omega,by simp only [List.length_nil]; omega⟩,Option.bind_some,grd_t ⟨by omega,by omega⟩,grd_t ⟨by omega,by omega⟩,grd_t ⟨by omega,by omega⟩]
 rfl
theorem bareStep_s {b:DBare} (h:SmallB b):F_spec_BareStep b=some (M.bareStep b):=by
 unfold F_spec_BareStep M.bareStep
 rw [bareOk_s h,Option.bind_some]
 cases hok:M.bareOk b with
 | false=>rfl
 | true =>
  have hb:=bOk_iff.1 hok
  have ht:=hb.tick
  have hl:=hb.len
  simp only [Bool.not_true,cond_false,cond_true]
  rw [copy_s h,Option.bind_some]
  unfold M.step
  cases b.C.Stopped with
  | true=>rfl
  | false =>
   simp only [cond_false]
   rw [ticked_s hb.timer.1 hb.timer.2,Option.bind_some]
   cases hw:(M.tick b.C).Waits && (M.tick b.C).On with
   | true=>rfl
   | false =>
    simp only [cond_false]
    rw [walk_s (by omega),Option.bind_some,walk_neg]
    by_cases h:M.walk b.Mem (M.tick b.C).Root (M.tick b.C).Pc (M.tick b.C).User false = -1
    · rw [decide_eq_true h]; rfl
    · have hw:=walk_lt _ _ _ _ _ h
      have hm:=mem_word hb hw.1 hw.2
      rw [decide_eq_false h,cond_false,cond_false,grd_t ⟨hw.1,by omega⟩,insFrom_s hm.1 hm.2,Option.bind_some]
      exact did_s ht (ins_ok hm.1 hm.2)
end
end Go.Proofs.Ytbanbjdcgdmkaaa
namespace Go.Proofs.Ytbanbjdcgdmkaaa
set_option linter.all false
theorem tmod_in {a b:Int} (ha:0≤a) (hb:0<b):0≤Int.tmod a b∧Int.tmod a b<b:=by
 rw [Int.tmod_eq_emod_of_nonneg ha]; exact ⟨Int.emod_nonneg _ (by omega),Int.emod_lt_of_pos _ hb⟩
theorem alive_t:F_laws_alive=some true:=rfl
def enc (e:DEntry):Int:=8*e.Page+(bif e.There then 1 else 0)+(bif e.Write then 2 else 0)+(bif e.User then 4 else 0)
theorem page_cases {p:Int} (h0:0≤p) (h7:p≤7):p=0∨p=1∨p=2∨p=3∨p=4∨p=5∨p=6∨p=7:=by omega
theorem entryWord_s {e:DEntry} (h0:0≤e.Page) (h7:e.Page≤7):F_spec_EntryWord e=some (enc e):=by
 obtain ⟨t,w,u,p⟩:=e
 rcases page_cases h0 h7 with h | h | h | h | h | h | h | h <;> simp only at h <;> subst h <;> cases t <;> cases w <;> cases u <;> rfl
theorem entryWord_bad_s {e:DEntry} (h:¬ (0≤e.Page∧e.Page≤7)):F_spec_EntryWord e=some (-1):=by
 unfold F_spec_EntryWord F_spec_l1In
 rw [show ∀ b y:Bool,(cond b (some y) (some false))=some (b && y) from fun b y=>by cases b <;> rfl]
 have e1:(decide (0≤e.Page) && decide (e.Page≤7))=false:=by rw [Bool.eq_false_iff]; simp; omega
 rw [e1]; rfl
end Go.Proofs.Ytbanbjdcgdmkaaa
namespace Go.Proofs.Ytbanbjdcgdmkaaa
set_option linter.all false
theorem i64_xor_nat (a b:Nat) (ha:a<9223372036854775808) (hb:b<9223372036854775808):bits .xor .i64 (a:Int) (b:Int)=((a ^^^ b:Nat):Int):=by
 have hx:a ^^^ b<2 ^ 63:=Nat.xor_lt_two_pow (by omega) (by omega)
 have h1:(BitVec.ofInt 64 (a:Int)).toNat=a:=by
  rw [BitVec.ofInt_natCast,BitVec.toNat_ofNat]; exact Nat.mod_eq_of_lt (by omega)
 have h2:(BitVec.ofInt 64 (b:Int)).toNat=b:=by
  rw [BitVec.ofInt_natCast,BitVec.toNat_ofNat]; exact Nat.mod_eq_of_lt (by omega)
 show IntKind.i64.wrap ((BitVec.ofInt 64 (a:Int) ^^^ BitVec.ofInt 64 (b:Int)).toNat:Int)=_
 rw [BitVec.toNat_xor,h1,h2]
 exact wrap_in (by omega) (by omega)
theorem xor_in {a b:Int} (a0:0≤a) (a1:a≤9223372036854775807) (b0:0≤b) (b1:b≤9223372036854775807):0≤bits .xor .i64 a b:=by
 obtain ⟨x,rfl⟩:=Int.eq_ofNat_of_zero_le a0
 obtain ⟨y,rfl⟩:=Int.eq_ofNat_of_zero_le b0
 rw [i64_xor_nat x y (by omega) (by omega)]
 omega
theorem byte_in {b:List Int} (hb:∀ x ∈ b,0≤x∧x≤255) (i:Nat):0≤b.getD i default∧b.getD i default≤255:=by
 by_cases h:i<b.length
 · rw [List.getD,List.getElem?_eq_getElem h]; exact hb _ (List.getElem_mem h)
 · rw [List.getD,List.getElem?_eq_none (by omega)]; exact ⟨by decide,by decide⟩
theorem pick_in {r:Dl20Rd} {n:Int} (hn:1≤n) (h0:0≤r.p) (h1:r.p≤1000000) (hb:∀ x ∈ r.b,0≤x∧x≤255):∃ v,F___spec_l20Rd__pick r n=some (⟨r.b,r.p+1⟩,v)∧0≤v∧v<n:=by
 unfold F___spec_l20Rd__pick
 have e1:w64 (r.p+1)=r.p+1:=w64_in (by omega) (by omega)
 rw [e1,show r.p+1 - 1=r.p by omega,w64_in (z:=r.p) (by omega) (by omega),decide_eq_false (show ¬ n<1 by omega),cond_false]
 by_cases hl:((r.b.length:Nat):Int)=0
 · rw [decide_eq_true hl]; exact ⟨_,rfl,by omega,by omega⟩
 · rw [decide_eq_false hl,cond_false]
   have hp:(0:Int)<((r.b.length:Nat):Int):=by omega
   have hn0:n≠0:=by omega
   by_cases hk:r.p<((r.b.length:Nat):Int)
   · rw [decide_eq_true hk,cond_true,grd_t ⟨h0,hk⟩,grd_t hn0]
     have g:=byte_in hb r.p.toNat
     rw [wrap_in (by omega) (by omega)]
     exact ⟨_,rfl,tmod_in g.1 (by omega)⟩
   · have e2:w64 (w64 (r.p*7)+3)=r.p*7+3:=by rw [w64_in (z:=r.p*7) (by omega) (by omega),w64_in (by omega) (by omega)]
     rw [decide_eq_false hk,cond_false,e2,grd_t hl,grd_t (tmod_in h0 hp),grd_t hl,grd_t (tmod_in (by omega) hp),grd_t hl,grd_t hn0]
     have g1:=byte_in hb (Int.toNat (Int.tmod r.p ((r.b.length:Nat):Int)))
     have g2:=byte_in hb (Int.toNat (Int.tmod (r.p*7+3) ((r.b.length:Nat):Int)))
     generalize r.b.getD (Int.toNat (Int.tmod r.p ((r.b.length:Nat):Int))) default=X at g1 ⊢
     generalize r.b.getD (Int.toNat (Int.tmod (r.p*7+3) ((r.b.length:Nat):Int))) default=Y at g2 ⊢
     have q:Int.tdiv r.p ((r.b.length:Nat):Int)=r.p / ((r.b.length:Nat):Int):=Int.tdiv_eq_ediv_of_nonneg h0
     have q0:0≤r.p / ((r.b.length:Nat):Int):=Int.ediv_nonneg h0 (by omega)
     have q1:r.p / ((r.b.length:Nat):Int)≤r.p:=Int.ediv_le_self _ h0
     rw [q]
     generalize r.p / ((r.b.length:Nat):Int)=Q at q0 q1 ⊢
     have k1:IntKind.wrap .i64 X=X:=wrap_in (by omega) (by omega)
     have k2:IntKind.wrap .i64 Y=Y:=wrap_in (by omega) (by omega)
     have k3:w64 (w64 (w64 (w64 (X*131)+w64 (Y*1117))+w64 (r.p*29))+w64 (w64 Q*53))=X*131+Y*1117+r.p*29+Q*53:=by
      rw [w64_in (z:=X*131) (by omega) (by omega),w64_in (z:=Y*1117) (by omega) (by omega),w64_in (z:=X*131+Y*1117) (by omega) (by omega),w64_in (z:=r.p*29) (by omega) (by omega),w64_in (z:=X*131+Y*1117+r.p*29) (by omega) (by omega),w64_in (z:=Q) (by omega) (by omega),w64_in (z:=Q*53) (by omega) (by omega),w64_in (by omega) (by omega)]
     rw [k1,k2,k3]
     have a0:0≤X*131+Y*1117+r.p*29+Q*53:=by omega
     have a1:X*131+Y*1117+r.p*29+Q*53≤9223372036854775807:=by omega
     generalize X*131+Y*1117+r.p*29+Q*53=A at a0 a1 ⊢
     have d:Int.tdiv A 64=A / 64:=Int.tdiv_eq_ediv_of_nonneg a0
     rw [d,w64_in (z:=A / 64) (by omega) (by omega)]
     exact ⟨_,rfl,tmod_in (xor_in a0 a1 (by omega) (by omega)) (by omega)⟩
structure Rdr (m : Int) (r : Dl20Rd) : Prop where
 b:∀ x ∈ r.b,0≤x∧x≤255
 p0:0≤r.p
 p1:r.p≤m
theorem Rdr.up {m n:Int} {r:Dl20Rd} (h:Rdr m r) (hn:m≤n):Rdr n r:=⟨h.b,h.p0,Int.le_trans h.p1 hn⟩
theorem pick_d {m n:Int} {r:Dl20Rd} (R:Rdr m r) (hm:m≤1000000) (hn:1≤n):Ex (F___spec_l20Rd__pick r n) (fun v=>Rdr (m+1) v.1∧0≤v.2∧v.2<n):=by
 obtain ⟨b,p0,p1⟩:=R
 obtain ⟨v,h1,h2,h3⟩:=pick_in hn p0 (by omega) b
 exact ⟨_,h1,⟨b,by show 0≤r.p+1; omega,by show r.p+1≤m+1; omega⟩,h2,h3⟩
theorem word_d {m:Int} {r:Dl20Rd} (R:Rdr m r) (hm:m≤999999):Ex (F___spec_l20Rd__word r) (fun v=>Rdr (m+2) v.1∧0≤v.2∧v.2≤4095):=by
 unfold F___spec_l20Rd__word
 refine Ex.bind (pick_d R (by omega) (by omega)) fun v1 ⟨R1,a1,b1⟩=>?_
 refine Ex.bind (pick_d R1 (by omega) (by omega)) fun v2 ⟨R2,a2,b2⟩=>?_
 rw [w64_in (z:=v1.2*256) (by omega) (by omega),w64_in (by omega) (by omega)]
 exact Ex.ret ⟨R2.up (by omega),by show 0≤v1.2*256+v2.2; omega,by show v1.2*256+v2.2≤4095; omega⟩
theorem open_d {xs:List Int} (h:∀ x ∈ xs,0≤x∧x≤255):Ex (F_spec_l20Open xs) (fun r=>Rdr 0 r):=by
 unfold F_spec_l20Open
 refine Ex.join (P:=fun s=>∀ x ∈ s,0≤x∧x≤255) ?_ fun s hs=>Ex.ret ⟨hs,Int.le_refl _,Int.le_refl _⟩
 refine Ex.cond (fun hc=>?_) fun hc=>Ex.ret ⟨_,rfl,h⟩
 have:=of_decide_eq_true hc
 exact Ex.grd ⟨by omega,by omega,by omega⟩ (Ex.ret ⟨_,rfl,fun x hx=>h x (List.mem_of_mem_drop (List.mem_of_mem_take hx))⟩)
end Go.Proofs.Ytbanbjdcgdmkaaa
namespace Go.Proofs.Ytbanbjdcgdmkaaa
set_option linter.all false
theorem odd_d {m n:Int} {r:Dl20Rd} (R:Rdr m r) (hm:m≤1000000):Ex (F___spec_l20Rd__odd r n) (fun v=>Rdr (m+1) v.1):=by
 unfold F___spec_l20Rd__odd
 refine Ex.cond (fun h=>?_) fun _=>Ex.ret (R.up (by omega))
 have:=of_decide_eq_true h
 exact Ex.bind (pick_d R hm (by omega)) fun v1 ⟨R1,_,_⟩=>Ex.ret R1
theorem odd_d0 {m n:Int} {r:Dl20Rd} (R:Rdr m r) (hm:m≤1000000):Ex (F___spec_l20Rd__odd r n) (fun v=>Rdr (m+1) v.1∧(n≤0→v.2=false)):=by
 unfold F___spec_l20Rd__odd
 refine Ex.cond (fun h=>?_) fun _=>Ex.ret ⟨R.up (by omega),fun _=>rfl⟩
 have:=of_decide_eq_true h
 exact Ex.bind (pick_d R hm (by omega)) fun v1 ⟨R1,_,_⟩=>Ex.ret ⟨R1,fun _=>by omega⟩
theorem entryWord_d (e:DEntry):Ex (F_spec_EntryWord e) (fun _=>True):=by
 by_cases h:0≤e.Page∧e.Page≤7
 · rw [entryWord_s h.1 h.2]; exact Ex.ret trivial
 · rw [entryWord_bad_s h]; exact Ex.ret trivial
theorem mem_loop {m:Int} (hm:m≤990000) (h0:0≤m) (s:List Int × Int × List Int × Int) (hs:0≤s.2.2.2∧s.2.2.2≤64∧Rdr (m+8*s.2.2.2) ⟨s.1,s.2.1⟩∧(s.2.2.1.length:Int)=s.2.2.2) :
 Ex (F_spec_l20Mem_l7 s) (fun o=>(∃ s',o = .next s'∧(0≤s'.2.2.2∧s'.2.2.2≤64∧Rdr (m+8*s'.2.2.2) ⟨s'.1,s'.2.1⟩∧(s'.2.2.1.length:Int)=s'.2.2.2)∧64 - s'.2.2.2.toNat<64 - s.2.2.2.toNat)∨∃ t,o = .ret (.go t)∧(Rdr (m+512) ⟨t.1,t.2.1⟩∧t.2.2.length=64)):=by
 obtain ⟨b,p,mem,k⟩:=s
 obtain ⟨k0,k1,R,hl⟩:=hs
 simp only at k0 k1 R hl
 unfold F_spec_l20Mem_l7
 refine Ex.cond (fun hk=>?_) fun hk=>?_
 · have hk:k<64:=of_decide_eq_true hk
   refine Ex.join (P:=fun s8:List Int × Int × Int=>Rdr (m+8*k+3) ⟨s8.1,s8.2.1⟩) ?_ fun s8 R8=>?_
   · refine Ex.bind (pick_d R (by omega) (by omega)) fun v1 ⟨R1,a1,b1⟩=>?_
     refine Ex.cond (fun _=>?_) fun _=>?_
     · exact Ex.bind (word_d R1 (by omega)) fun v2 ⟨R2,_,_⟩=>Ex.ret ⟨_,rfl,R2.up (by omega)⟩
     · exact Ex.ret ⟨_,rfl,R1.up (by omega)⟩
   · unfold F_spec_l20Mem_j8
     refine Ex.join (P:=fun s9:List Int × Int × Int=>Rdr (m+8*k+7) ⟨s9.1,s9.2.1⟩) ?_ fun s9 R9=>?_
     · have e:∀ Q:JO (List Int × Int × Int) (LO (List Int × Int × List Int × Int) (JO (List Int × Int × List Int) (Dl20Rd × List Int)))→Prop,(∀ v:Dl20Rd × Int,∀ w,Rdr (m+8*k+7) v.1→Q (.go (v.1.b,v.1.p,w)))→Ex (Option.bind (F___spec_l20Rd__pick (Dl20Rd.mk s8.1 s8.2.1) (5:Int)) fun v10 =>
        Option.bind (F___spec_l20Rd__pick v10.1 (4:Int)) fun v11 =>
        Option.bind (F___spec_l20Rd__pick v11.1 (3:Int)) fun v12 =>
        Option.bind (F___spec_l20Rd__pick v12.1 (8:Int)) fun v13 =>
        Option.bind (F_spec_EntryWord (DEntry.mk (decide ((0:Int)<v10.2)) (decide ((0:Int)<v11.2)) (decide ((0:Int)<v12.2)) v13.2)) fun v14 =>
        some (.go (v13.1.b,v13.1.p,v14))) Q:=fun Q hQ=>by
        refine Ex.bind (pick_d R8 (by omega) (by omega)) fun v1 ⟨R1,a1,b1⟩=>?_
        refine Ex.bind (pick_d R1 (by omega) (by omega)) fun v2 ⟨R2,a2,b2⟩=>?_
        refine Ex.bind (pick_d R2 (by omega) (by omega)) fun v3 ⟨R3,a3,b3⟩=>?_
        refine Ex.bind (pick_d R3 (by omega) (by omega)) fun v4 ⟨R4,a4,b4⟩=>?_
        refine Ex.bind (entryWord_d _) fun v5 _=>?_
        exact Ex.ret (hQ v4 v5 (R4.up (by omega)))
       refine Ex.cond (fun _=>?_) fun _=>?_
       · exact e _ fun v w h=>⟨_,rfl,h⟩
       · refine Ex.cond (fun _=>?_) fun _=>?_
         · exact e _ fun v w h=>⟨_,rfl,h⟩
         · exact Ex.ret ⟨_,rfl,R8.up (by omega)⟩
     · unfold F_spec_l20Mem_j9
       refine Ex.grd ⟨by simp only [List.length_cons,List.length_nil]; omega,by simp only [List.length_cons,List.length_nil]; omega⟩ (Ex.ret (.inl ⟨_,rfl,⟨?_,?_,?_,?_⟩,?_⟩))
       all_goals simp only [w64_in (z:=k+1) (by omega) (by omega),List.length_append,List.length_cons,List.length_nil]
       · omega
       · omega
       · exact R9.up (by omega)
       · omega
       · omega
 · have hk:¬ k<64:=of_decide_eq_false hk
   exact Ex.ret (.inr ⟨_,rfl,R.up (by omega),by show mem.length=64; omega⟩)
theorem mem_d {m n:Int} {r:Dl20Rd} (R:Rdr m r) (h0:0≤m) (hm:m≤990000):Ex (F_spec_l20Mem r n) (fun v=>Rdr (m+600) v.1∧v.2.length≤64∧(n≤0→v.2.length=64)):=by
 unfold F_spec_l20Mem
 refine Ex.join (Ex.loopv (fun s:List Int × Int × List Int × Int=>0≤s.2.2.2∧s.2.2.2≤64∧Rdr (m+8*s.2.2.2) ⟨s.1,s.2.1⟩∧(s.2.2.1.length:Int)=s.2.2.2) (fun s=>64 - s.2.2.2.toNat) (fun t=>Rdr (m+512) ⟨t.1,t.2.1⟩∧t.2.2.length=64) ⟨by simp,by simp,R.up (by simp),by simp⟩ (mem_loop hm h0)) fun s1 ⟨R1,hl⟩=>?_
 unfold F_spec_l20Mem_j1
 refine Ex.join (P:=fun s2:List Int × Int × List Int=>Rdr (m+600) ⟨s2.1,s2.2.1⟩∧s2.2.2.length≤64∧(n≤0→s2.2.2.length=64)) ?_ fun s2 h2=>Ex.ret h2
 refine Ex.bind (odd_d0 R1 (by omega)) fun v3 ⟨R3,o3⟩=>?_
 refine Ex.cond (fun hv=>?_) fun _=>?_
 · refine Ex.bind (pick_d R3 (by omega) (by omega)) fun v4 ⟨R4,a4,b4⟩=>?_
   refine Ex.cond (fun _=>?_) fun _=>?_
   · exact Ex.grd ⟨by omega,by omega,by omega⟩ (Ex.ret ⟨_,rfl,R4.up (by omega),by rw [List.length_take]; omega,fun hn=>by rw [o3 hn] at hv; cases hv⟩)
   · refine Ex.bind (pick_d R4 (by omega) (by omega)) fun v5 ⟨R5,a5,b5⟩=>?_
     refine Ex.bind (pick_d R5 (by omega) (by omega)) fun v6 ⟨R6,a6,b6⟩=>?_
     exact Ex.grd ⟨by omega,by omega⟩ (Ex.ret ⟨_,rfl,R6.up (by omega),by rw [List.length_set]; omega,fun hn=>by rw [o3 hn] at hv; cases hv⟩)
 · exact Ex.ret ⟨_,rfl,R3.up (by omega),by show s1.2.2.length≤64; omega,fun _=>hl⟩
theorem alive_d {Q:Bool→Prop} (h:Q true):Ex F_laws_alive Q:=⟨_,alive_t,h⟩
end Go.Proofs.Ytbanbjdcgdmkaaa
namespace Go.Proofs.Ytbanbjdcgdmkaaa
set_option linter.all false
theorem core_loop {m:Int} (hm:m≤990000) (h0:0≤m) (s:List Int × Int × List Int × Int) (hs:0≤s.2.2.2∧s.2.2.2≤4∧Rdr (m+8*s.2.2.2) ⟨s.1,s.2.1⟩∧(s.2.2.1.length:Int)=s.2.2.2) :
 Ex (F_spec_l20Core_l21 s) (fun o=>(∃ s',o = .next s'∧(0≤s'.2.2.2∧s'.2.2.2≤4∧Rdr (m+8*s'.2.2.2) ⟨s'.1,s'.2.1⟩∧(s'.2.2.1.length:Int)=s'.2.2.2)∧4 - s'.2.2.2.toNat<4 - s.2.2.2.toNat)∨∃ t,o = .ret (.go t)∧(Rdr (m+32) ⟨t.1,t.2.1⟩∧t.2.2.length=4)):=by
 obtain ⟨b,p,rs,k⟩:=s
 obtain ⟨k0,k1,R,hl⟩:=hs
 simp only at k0 k1 R hl
 unfold F_spec_l20Core_l21
 refine Ex.cond (fun hk=>?_) fun hk=>?_
 · have hk:k<4:=of_decide_eq_true hk
   refine Ex.bind (pick_d R (by omega) (by omega)) fun v1 ⟨R1,a1,b1⟩=>?_
   refine Ex.bind (pick_d R1 (by omega) (by omega)) fun v2 ⟨R2,a2,b2⟩=>?_
   refine Ex.bind (word_d R2 (by omega)) fun v3 ⟨R3,a3,b3⟩=>?_
   refine Ex.bind (pick_d R3 (by omega) (by omega)) fun v4 ⟨R4,a4,b4⟩=>?_
   refine Ex.grd ⟨a4,by simp only [List.length_cons,List.length_nil]; omega⟩ ?_
   refine Ex.grd ⟨by simp only [List.length_cons,List.length_nil]; omega,by simp only [List.length_cons,List.length_nil]; omega⟩ (Ex.ret (.inl ⟨_,rfl,⟨?_,?_,?_,?_⟩,?_⟩))
   all_goals simp only [w64_in (z:=k+1) (by omega) (by omega),List.length_append,List.length_cons,List.length_nil]
   · omega
   · omega
   · exact R4.up (by omega)
   · omega
   · omega
 · have hk:¬ k<4:=of_decide_eq_false hk
   exact Ex.ret (.inr ⟨_,rfl,R.up (by omega),by show rs.length=4; omega⟩)
theorem core_d {m n:Int} {r:Dl20Rd} (R:Rdr m r) (h0:0≤m) (hm:m≤980000):Ex (F_spec_l20Core r n) (fun v=>Rdr (m+60) v.1∧v.2.Regs.length≤4):=by
 unfold F_spec_l20Core
 refine Ex.bind (pick_d R (by omega) (by omega)) fun v1 ⟨R1,a1,b1⟩=>?_
 refine Ex.bind (pick_d R1 (by omega) (by omega)) fun v2 ⟨R2,a2,b2⟩=>?_
 refine Ex.grd ⟨a2,by simp only [List.length_cons,List.length_nil]; omega⟩ ?_
 refine Ex.bind (pick_d R2 (by omega) (by omega)) fun v3 ⟨R3,a3,b3⟩=>?_
 refine Ex.bind (pick_d R3 (by omega) (by omega)) fun v4 ⟨R4,a4,b4⟩=>?_
 refine Ex.bind (pick_d R4 (by omega) (by omega)) fun v5 ⟨R5,a5,b5⟩=>?_
 refine Ex.bind (pick_d R5 (by omega) (by omega)) fun v6 ⟨R6,a6,b6⟩=>?_
 refine Ex.bind (pick_d R6 (by omega) (by omega)) fun v7 ⟨R7,a7,b7⟩=>?_
 refine Ex.bind (pick_d R7 (by omega) (by omega)) fun v8 ⟨R8,a8,b8⟩=>?_
 refine Ex.bind (pick_d R8 (by omega) (by omega)) fun v9 ⟨R9,a9,b9⟩=>?_
 refine Ex.bind (pick_d R9 (by omega) (by omega)) fun v10 ⟨R10,a10,b10⟩=>?_
 refine Ex.bind (pick_d R10 (by omega) (by omega)) fun v11 ⟨R11,a11,b11⟩=>?_
 refine Ex.bind (pick_d R11 (by omega) (by omega)) fun v12 ⟨R12,a12,b12⟩=>?_
 refine Ex.bind (pick_d R12 (by omega) (by omega)) fun v13 ⟨R13,a13,b13⟩=>?_
 have R13:Rdr (m+13) v13.1:=R13.up (by omega)
 refine Ex.join (Ex.loopv (fun s:List Int × Int × List Int × Int=>0≤s.2.2.2∧s.2.2.2≤4∧Rdr (m+13+8*s.2.2.2) ⟨s.1,s.2.1⟩∧(s.2.2.1.length:Int)=s.2.2.2) (fun s=>4 - s.2.2.2.toNat) (fun t=>Rdr (m+13+32) ⟨t.1,t.2.1⟩∧t.2.2.length=4) ⟨by simp,by simp,R13.up (by simp),by simp⟩ (core_loop (by omega) (by omega))) fun s1 ⟨RL,hl⟩=>?_
 unfold F_spec_l20Core_j14
 refine Ex.join (P:=fun s2:List Int × Int × List Int × Int × Int=>Rdr (m+60) ⟨s2.1,s2.2.1⟩∧s2.2.2.1.length≤4) ?_ fun s2 h2=>Ex.ret h2
 refine Ex.bind (odd_d RL (by omega)) fun v16 R16=>?_
 have R16:Rdr (m+46) v16.1:=R16.up (by omega)
 refine Ex.cond (fun _=>?_) fun _=>?_
 · refine Ex.bind (pick_d R16 (by omega) (by omega)) fun v17 ⟨R17,a17,b17⟩=>?_
   refine Ex.cond (fun _=>?_) fun _=>?_
   · exact Ex.grd ⟨by omega,by omega,by omega⟩ (Ex.ret ⟨_,rfl,R17.up (by omega),by simp only [List.length_take]; omega⟩)
   · refine Ex.cond (fun _=>?_) fun _=>?_
     · exact Ex.bind (pick_d R17 (by omega) (by omega)) fun v18 ⟨R18,a18,b18⟩=>Ex.ret ⟨_,rfl,R18.up (by omega),by simp only; omega⟩
     · refine Ex.cond (fun _=>?_) fun _=>?_
       · exact Ex.bind (pick_d R17 (by omega) (by omega)) fun v18 ⟨R18,a18,b18⟩=>Ex.ret ⟨_,rfl,R18.up (by omega),by simp only; omega⟩
       · exact Ex.bind (pick_d R17 (by omega) (by omega)) fun v18 ⟨R18,a18,b18⟩=>Ex.grd ⟨by omega,by omega⟩ (Ex.ret ⟨_,rfl,R18.up (by omega),by simp only [List.length_set]; omega⟩)
 · exact Ex.ret ⟨_,rfl,R16.up (by omega),by simp only; omega⟩
end Go.Proofs.Ytbanbjdcgdmkaaa
namespace Go.Proofs.Ytbanbjdcgdmkaaa
set_option linter.all false
theorem insWord_d (x:DIns):Ex (F_spec_InsWord x) (fun _=>True):=by
 unfold F_spec_InsWord
 rw [insOk_s]
 exact Ex.cond (fun _=>Ex.ret trivial) fun _=>Ex.ret trivial
theorem ins_d {m n:Int} {r:Dl20Rd} (R:Rdr m r) (hm:m≤999000):Ex (F_spec_l20Ins r n) (fun v=>Rdr (m+6) v.1):=by
 unfold F_spec_l20Ins
 refine Ex.bind (pick_d R (by omega) (by omega)) fun v1 ⟨R1,a1,b1⟩=>?_
 refine Ex.bind (pick_d R1 (by omega) (by omega)) fun v2 ⟨R2,a2,b2⟩=>?_
 refine Ex.bind (pick_d R2 (by omega) (by omega)) fun v3 ⟨R3,a3,b3⟩=>?_
 refine Ex.join (P:=fun s:Int × List Int × Int × Int × Int=>Rdr (m+6) ⟨s.2.1,s.2.2.1⟩) ?_ fun s hs=>Ex.ret hs
 refine Ex.bind (odd_d R3 (by omega)) fun v5 R5=>?_
 refine Ex.cond (fun _=>?_) fun _=>Ex.ret ⟨_,rfl,R5.up (by omega)⟩
 refine Ex.bind (pick_d R5 (by omega) (by omega)) fun v6 ⟨R6,a6,b6⟩=>?_
 refine Ex.cond (fun _=>?_) fun _=>?_
 · exact Ex.bind (pick_d R6 (by omega) (by omega)) fun v7 ⟨R7,_,_⟩=>Ex.ret ⟨_,rfl,R7.up (by omega)⟩
 · refine Ex.cond (fun _=>?_) fun _=>?_
   · exact Ex.ret ⟨_,rfl,R6.up (by omega)⟩
   · exact Ex.bind (pick_d R6 (by omega) (by omega)) fun v7 ⟨R7,_,_⟩=>Ex.ret ⟨_,rfl,R7.up (by omega)⟩
theorem code_loop {m:Int} {L:Nat} (hL:L≤64) (hm:m≤900000) (h0:0≤m) (s:List Int × Int × List Int × Int) (hs:0≤s.2.2.2∧s.2.2.2≤(L:Int)∧Rdr (m+12*s.2.2.2) ⟨s.1,s.2.1⟩∧s.2.2.1.length=L) :
 Ex (F_spec_l20Code_l3 s) (fun o=>(∃ s',o = .next s'∧(0≤s'.2.2.2∧s'.2.2.2≤(L:Int)∧Rdr (m+12*s'.2.2.2) ⟨s'.1,s'.2.1⟩∧s'.2.2.1.length=L)∧L - s'.2.2.2.toNat<L - s.2.2.2.toNat)∨∃ t,o = .ret (.go t)∧(Rdr (m+768) ⟨t.2.1,t.2.2⟩∧t.1.length=L)):=by
 obtain ⟨b,p,mem,k⟩:=s
 obtain ⟨k0,k1,R,hl⟩:=hs
 simp only at k0 k1 R hl
 unfold F_spec_l20Code_l3
 refine Ex.cond (fun hk=>?_) fun hk=>?_
 · have hk:k<(mem.length:Int):=of_decide_eq_true hk
   refine Ex.join (P:=fun s4:List Int × Int × List Int=>Rdr (m+12*k+12) ⟨s4.1,s4.2.1⟩∧s4.2.2.length=L) ?_ fun s4 ⟨R4,hl4⟩=>?_
   · refine Ex.join (P:=fun _:Bool=>True) (Ex.cond (fun _=>Ex.ret ⟨_,rfl,trivial⟩) fun _=>Ex.ret ⟨_,rfl,trivial⟩) fun s5 _=>?_
     unfold F_spec_l20Code_j5
     refine Ex.cond (fun _=>?_) fun _=>?_
     · refine Ex.bind (pick_d R (by omega) (by omega)) fun v6 ⟨R6,a6,b6⟩=>?_
       refine Ex.cond (fun _=>?_) fun _=>Ex.ret ⟨_,rfl,R6.up (by omega),hl⟩
       refine Ex.bind (pick_d R6 (by omega) (by omega)) fun v7 ⟨R7,a7,b7⟩=>?_
       refine Ex.bind (pick_d R7 (by omega) (by omega)) fun v8 ⟨R8,a8,b8⟩=>?_
       refine Ex.bind (pick_d R8 (by omega) (by omega)) fun v9 ⟨R9,a9,b9⟩=>?_
       refine Ex.bind (entryWord_d _) fun v10 _=>?_
       exact Ex.grd ⟨k0,hk⟩ (Ex.ret ⟨_,rfl,R9.up (by omega),by simp only [List.length_set]; exact hl⟩)
     · refine Ex.bind (ins_d R (by omega)) fun v11 R11=>?_
       refine Ex.join (P:=fun s12:List Int × Int × Int=>Rdr (m+12*k+8) ⟨s12.1,s12.2.1⟩) ?_ fun s12 R12=>?_
       · refine Ex.bind (pick_d R11 (by omega) (by omega)) fun v16 ⟨R16,a16,b16⟩=>?_
         refine Ex.cond (fun _=>?_) fun _=>Ex.ret ⟨_,rfl,R16.up (by omega)⟩
         refine Ex.bind (pick_d R16 (by omega) (by omega)) fun v17 ⟨R17,a17,b17⟩=>?_
         exact Ex.grd ⟨a17,b17⟩ (Ex.ret ⟨_,rfl,R17.up (by omega)⟩)
       · unfold F_spec_l20Code_j12
         refine Ex.join (P:=fun s13:List Int × Int × Int=>Rdr (m+12*k+9) ⟨s13.1,s13.2.1⟩) ?_ fun s13 R13=>?_
         · refine Ex.cond (fun _=>?_) fun _=>Ex.ret ⟨_,rfl,R12.up (by omega)⟩
           refine Ex.bind (pick_d R12 (by omega) (by omega)) fun v15 ⟨R15,a15,b15⟩=>?_
           exact Ex.cond (fun _=>Ex.ret ⟨_,rfl,R15.up (by omega)⟩) fun _=>Ex.ret ⟨_,rfl,R15.up (by omega)⟩
         · unfold F_spec_l20Code_j13
           refine Ex.bind (insWord_d _) fun v14 _=>?_
           exact Ex.grd ⟨k0,hk⟩ (Ex.ret ⟨_,rfl,R13.up (by omega),by simp only [List.length_set]; exact hl⟩)
   · unfold F_spec_l20Code_j4
     refine Ex.ret (.inl ⟨_,rfl,⟨?_,?_,?_,?_⟩,?_⟩)
     all_goals simp only [w64_in (z:=k+1) (by omega) (by omega)]
     · omega
     · omega
     · exact R4.up (by omega)
     · exact hl4
     · omega
 · have hk:¬ k<(mem.length:Int):=of_decide_eq_false hk
   exact Ex.ret (.inr ⟨_,rfl,R.up (by omega),hl⟩)
theorem code_d {m:Int} {r:Dl20Rd} (R:Rdr m r) (h0:0≤m) (hm:m≤800000):Ex (F_spec_l20Code r) (fun v=>Rdr (m+1400) v.1∧v.2.length=64):=by
 unfold F_spec_l20Code
 refine Ex.bind (mem_d R h0 (by omega)) fun v1 ⟨R1,hl,hl0⟩=>?_
 have hl0:=hl0 (by omega)
 refine Ex.join (Ex.loopv (fun s:List Int × Int × List Int × Int=>0≤s.2.2.2∧s.2.2.2≤(v1.2.length:Int)∧Rdr (m+600+12*s.2.2.2) ⟨s.1,s.2.1⟩∧s.2.2.1.length=v1.2.length) (fun s=>v1.2.length - s.2.2.2.toNat) (fun t=>Rdr (m+600+768) ⟨t.2.1,t.2.2⟩∧t.1.length=v1.2.length) ⟨by simp,by simp,R1.up (by simp),rfl⟩ (code_loop hl (by omega) (by omega))) fun s2 ⟨R2,h2⟩=>?_
 unfold F_spec_l20Code_j2
 exact Ex.ret ⟨R2.up (by omega),by show s2.1.length=64; omega⟩
theorem words_loop {m:Int} (hm:m≤900000) (h0:0≤m) (s:List Int × Int × List Int × Int) (hs:0≤s.2.2.2∧s.2.2.2≤3∧Rdr (m+2*(3 - s.2.2.2)) ⟨s.1,s.2.1⟩∧(s.2.2.1.length:Int)+s.2.2.2≤3) :
 Ex (F_spec_l20Bare_l14 s) (fun o=>(∃ s',o = .next s'∧(0≤s'.2.2.2∧s'.2.2.2≤3∧Rdr (m+2*(3 - s'.2.2.2)) ⟨s'.1,s'.2.1⟩∧(s'.2.2.1.length:Int)+s'.2.2.2≤3)∧s'.2.2.2.toNat<s.2.2.2.toNat)∨∃ t,o = .ret (.go t)∧(Rdr (m+6) ⟨t.1,t.2.1⟩∧t.2.2.length≤3)):=by
 obtain ⟨b,p,l,k⟩:=s
 obtain ⟨k0,k1,R,hl⟩:=hs
 simp only at k0 k1 R hl
 unfold F_spec_l20Bare_l14
 refine Ex.cond (fun hk=>?_) fun hk=>?_
 · have hk:0<k:=of_decide_eq_true hk
   refine Ex.bind (word_d R (by omega)) fun v ⟨R1,a1,b1⟩=>?_
   refine Ex.grd ⟨by simp only [List.length_cons,List.length_nil]; omega,by simp only [List.length_cons,List.length_nil]; omega⟩ (Ex.ret (.inl ⟨_,rfl,⟨?_,?_,?_,?_⟩,?_⟩))
   all_goals simp only [w64_in (z:=k - 1) (by omega) (by omega),List.length_append,List.length_cons,List.length_nil]
   · omega
   · omega
   · exact R1.up (by omega)
   · omega
   · omega
 · have hk:¬ 0<k:=of_decide_eq_false hk
   exact Ex.ret (.inr ⟨_,rfl,R.up (by omega),by show l.length≤3; omega⟩)
theorem words_d {m k:Int} {r:Dl20Rd} (R:Rdr m r) (h0:0≤m) (hm:m≤900000) (k0:0≤k) (k1:k≤3):Ex (Option.bind (iter F_spec_l20Bare_l14 (r.b,r.p,[],k)) LO.val) (fun j=>∃ t,j = .go t∧(Rdr (m+6) ⟨t.1,t.2.1⟩∧t.2.2.length≤3)) :=
 Ex.loopv (fun s:List Int × Int × List Int × Int=>0≤s.2.2.2∧s.2.2.2≤3∧Rdr (m+2*(3 - s.2.2.2)) ⟨s.1,s.2.1⟩∧(s.2.2.1.length:Int)+s.2.2.2≤3) (fun s=>s.2.2.2.toNat) (fun t:List Int × Int × List Int=>Rdr (m+6) ⟨t.1,t.2.1⟩∧t.2.2.length≤3) ⟨k0,k1,R.up (by simp only; omega),by simp only [List.length_nil]; omega⟩ (words_loop hm h0)
theorem words_d' {m k:Int} {r:Dl20Rd} (R:Rdr m r) (h0:0≤m) (hm:m≤900000) (k0:0≤k) (k1:k≤3):Ex (Option.bind (iter F_spec_l20Bare_l11 (r.b,r.p,[],k)) LO.val) (fun j=>∃ t,j = .go t∧(Rdr (m+6) ⟨t.1,t.2.1⟩∧t.2.2.length≤3)):=words_d R h0 hm k0 k1
structure Tiny (b : DBare) : Prop where
 regs:b.C.Regs.length≤4
 mem:b.Mem.length≤64
 i:b.In.length≤31
 o:b.Out.length≤31
theorem Tiny.small {b:DBare} (h:Tiny b):SmallB b:=⟨⟨by have:=h.regs; omega⟩,by have:=h.mem; omega,by have:=h.i; omega,by have:=h.o; omega⟩
theorem bare_d {m n:Int} {r:Dl20Rd} (R:Rdr m r) (h0:0≤m) (hm:m≤700000):Ex (F_spec_l20Bare r n) (fun v=>Rdr (m+3000) v.1∧Tiny v.2∧(n≤0→v.2.Mem.length=64)):=by
 unfold F_spec_l20Bare
 refine Ex.bind (core_d R h0 (by omega)) fun v1 ⟨R1,c1⟩=>?_
 refine Ex.bind (code_d R1 (by omega) (by omega)) fun v2 ⟨R2,c2⟩=>?_
 refine Ex.join (Ex.bind (pick_d R2 (by omega) (by omega)) fun v13 ⟨R13,a13,b13⟩=>words_d R13 (by omega) (by omega) a13 (by omega)) fun s3 ⟨R3,c3⟩=>?_
 unfold F_spec_l20Bare_j3
 refine Ex.join (Ex.bind (pick_d R3 (by omega) (by omega)) fun v10 ⟨R10,a10,b10⟩=>words_d' R10 (by omega) (by omega) a10 (by omega)) fun s4 ⟨R4,c4⟩=>?_
 unfold F_spec_l20Bare_j4
 refine Ex.join (P:=fun s5:List Int × Int × Int × Int × Int × Bool × Int × Int × Int × Bool × Bool × Bool × Bool × List Int × Int × List Int × List Int=>Rdr (m+3000) ⟨s5.2.2.2.2.2.2.2.2.2.2.2.2.2.1,s5.2.2.2.2.2.2.2.2.2.2.2.2.2.2.1⟩∧s5.1.length≤4∧s5.2.2.2.2.2.2.2.2.2.2.2.2.2.2.2.1.length≤64∧s5.2.2.2.2.2.2.2.2.2.2.2.2.2.2.2.2.length≤31∧(n≤0→s5.2.2.2.2.2.2.2.2.2.2.2.2.2.2.2.1.length=64)) ?_ fun s5 ⟨h5,g1,g2,g3,g4⟩=>Ex.ret ⟨h5,⟨g1,g2,g3,by show s4.2.2.length≤31; omega⟩,g4⟩
 have c2':v2.2.length≤64:=by omega
 refine Ex.bind (odd_d0 R4 (by omega)) fun v6 ⟨R6,o6⟩=>?_
 refine Ex.cond (fun hv=>?_) fun _=>Ex.ret ⟨_,rfl,R6.up (by omega),c1,c2',by simp only; omega,fun _=>c2⟩
 refine Ex.bind (pick_d R6 (by omega) (by omega)) fun v7 ⟨R7,a7,b7⟩=>?_
 refine Ex.cond (fun _=>?_) fun _=>?_
 · exact Ex.bind (core_d R7 (by omega) (by omega)) fun v8 ⟨R8,c8⟩=>Ex.ret ⟨_,rfl,R8.up (by omega),c8,c2',by simp only; omega,fun hn=>by rw [o6 hn] at hv; cases hv⟩
 · refine Ex.cond (fun _=>?_) fun _=>?_
   · exact Ex.bind (mem_d R7 (by omega) (by omega)) fun v8 ⟨R8,c8,_⟩=>Ex.ret ⟨_,rfl,R8.up (by omega),c1,c8,by simp only; omega,fun hn=>by rw [o6 hn] at hv; cases hv⟩
   · exact Ex.ret ⟨_,rfl,R7.up (by omega),c1,c2',by simp,fun hn=>by rw [o6 hn] at hv; cases hv⟩
end Go.Proofs.Ytbanbjdcgdmkaaa
namespace Go.Proofs.Ytbanbjdcgdmkaaa
set_option linter.all false
theorem sameInts_eq {xs ys:List Int} (h:xs.length≤9223372036854775806):F_laws_sameInts xs ys=some (decide (xs=ys)):=by
 unfold F_laws_sameInts
 by_cases hl:xs.length=ys.length
 · have key:∀ k:Int,(0≤k∧k≤(xs.length:Int))→iter (F_laws_sameInts_l2 xs ys) k=some (.ret (bif decide (xs.drop k.toNat=ys.drop k.toNat) then .go () else .out false)):=by
    refine iter_rec _ (fun k=>xs.length - k.toNat) _ ?_
    rintro k ⟨h0,h1⟩
    by_cases hk:k<xs.length
    · have e1:xs.drop k.toNat=xs.getD k.toNat default::xs.drop (k+1).toNat:=by
       rw [getD_lt (by omega),show (k+1).toNat=k.toNat+1 by omega]; exact List.drop_eq_getElem_cons (by omega)
      have e2:ys.drop k.toNat=ys.getD k.toNat default::ys.drop (k+1).toNat:=by
       rw [getD_lt (by omega),show (k+1).toNat=k.toNat+1 by omega]; exact List.drop_eq_getElem_cons (by omega)
      have es:F_laws_sameInts_l2 xs ys k=cond (!decide (xs.getD k.toNat default=ys.getD k.toNat default)) (some (.ret (.out false))) (some (.next (k+1))):=by
       unfold F_laws_sameInts_l2
       rw [decide_eq_true hk,cond_true,grd_t ⟨h0,hk⟩,grd_t ⟨h0,by omega⟩,w64_in (by omega) (by omega)]
      by_cases he:xs.getD k.toNat default=ys.getD k.toNat default
      · refine .inl ⟨k+1,by rw [es,decide_eq_true he]; rfl,⟨by omega,by omega⟩,by omega,?_⟩
        rw [e1,e2,he]; simp
      · refine .inr ⟨fun s'=>by rw [es,decide_eq_false he]; simp,?_⟩
        rw [es,decide_eq_false he,e1,e2]
        have:decide (xs.getD k.toNat default::xs.drop (k+1).toNat=ys.getD k.toNat default::ys.drop (k+1).toNat)=false:=decide_eq_false fun e=>he (List.cons.inj e).1
        rw [this]; rfl
    · have hk2:k=xs.length:=by omega
      subst hk2
      refine .inr ⟨?_,?_⟩
      · intro s'; simp [F_laws_sameInts_l2]
      · simp [F_laws_sameInts_l2,hl]
   rw [key 0 ⟨by omega,by omega⟩]
   have:decide ((xs.length:Int)=(ys.length:Int))=true:=by simp [hl]
   rw [this]
   by_cases e:xs=ys
   · subst e; simp [LO.val,JO.run,F_laws_sameInts_j1]
   · simp [e,LO.val,JO.run]
 · have:decide ((xs.length:Int)=(ys.length:Int))=false:=by simp; omega
   rw [this]
   have e:xs≠ys:=fun e=>hl (by rw [e])
   simp [e]
theorem sameCore_refl {a:DCore} (h:a.Regs.length≤9223372036854775806):F_laws_sameCore a a=some true:=by
 unfold F_laws_sameCore
 rw [sameInts_eq h]
 simp
theorem sameBare_refl {a:DBare} (h:SmallB a):F_laws_sameBare a a=some true:=by
 have:=h.c.regs; have:=h.mem; have:=h.i; have:=h.o
 unfold F_laws_sameBare
 rw [sameCore_refl (by omega),sameInts_eq (by omega),sameInts_eq (by omega),sameInts_eq (by omega)]
 simp
end Go.Proofs.Ytbanbjdcgdmkaaa
namespace Go.Proofs.Ytbanbjdcgdmkaaa
set_option linter.all false
theorem bareStep_d {xs:List Int} (hb:∀ x ∈ xs,0≤x∧x≤255):Ex (F_spec_DrawBareStep xs) Tiny:=by
 unfold F_spec_DrawBareStep
 refine Ex.bind (open_d hb) fun r R=>?_
 refine Ex.bind (bare_d R (by omega) (by omega)) fun v2 ⟨R2,t2,_⟩=>?_
 refine Ex.join (P:=fun s:List Int=>s.length≤64) ?_ fun s hs=>Ex.ret ⟨t2.regs,hs,t2.i,t2.o⟩
 refine Ex.bind (pick_d R2 (by omega) (by omega)) fun v4 ⟨R4,a4,b4⟩=>?_
 have hm:=t2.mem
 have hr:=t2.regs
 refine Ex.cond (fun _=>?_) fun _=>Ex.ret ⟨_,rfl,hm⟩
 refine Ex.cond (fun h64=>?_) fun _=>Ex.ret ⟨_,rfl,hm⟩
 refine Ex.cond (fun _=>?_) fun _=>Ex.ret ⟨_,rfl,hm⟩
 rw [coreOk_s (by omega),Option.bind_some]
 refine Ex.cond (fun _=>?_) fun _=>Ex.ret ⟨_,rfl,hm⟩
 rw [walk_s (by omega),Option.bind_some]
 refine Ex.cond (fun hw=>?_) fun _=>Ex.ret ⟨_,rfl,hm⟩
 have hw:=of_decide_eq_true hw
 have h64:=of_decide_eq_true h64
 have hlt:=(walk_lt v2.2.Mem v2.2.C.Root v2.2.C.Pc v2.2.C.User false (by omega)).2
 refine Ex.bind (ins_d R4 (by omega)) fun v7 R7=>?_
 refine Ex.bind (insWord_d _) fun v8 _=>?_
 exact Ex.grd ⟨hw,by omega⟩ (Ex.ret ⟨_,rfl,by rw [List.length_set]; exact hm⟩)
theorem tick_root (c:DCore):(M.tick c).Root=c.Root:=by unfold M.tick; cases decide (c.Timer=0) <;> rfl
theorem tick_vec (c:DCore):(M.tick c).Vector=c.Vector:=by unfold M.tick; cases decide (c.Timer=0) <;> rfl
theorem tick_user (c:DCore):(M.tick c).User=c.User:=by unfold M.tick; cases decide (c.Timer=0) <;> rfl
theorem tick_timer {c:DCore} (h:0≤c.Timer):(M.tick c).Timer=max (c.Timer - 1) 0:=by
 unfold M.tick
 by_cases e:c.Timer=0
 · rw [decide_eq_true e,cond_true,e]; decide
 · rw [decide_eq_false e,cond_false]; show c.Timer - 1=max (c.Timer - 1) 0; omega
structure Keeps (b o : DBare) : Prop where
 root:o.C.Root=b.C.Root
 vec:o.C.Vector=b.C.Vector
 timer:o.C.Timer=b.C.Timer
 i:o.In=b.In
 o:o.Out=b.Out
def OneWord (b o:DBare):Prop:=∃ p:Int,∀ k:Int,0≤k→k<64→o.Mem.getD k.toNat default≠b.Mem.getD k.toNat default→k=p∧∃ a,0≤a∧a<64∧M.walk b.Mem b.C.Root a true true=k
theorem oneWord_same {b o:DBare} (h:o.Mem=b.Mem):OneWord b o:=⟨0,fun k _ _ hne=>absurd (by rw [h]) hne⟩
theorem plain_keeps (c:DCore) (i:DIns):(M.plain c i).Root=c.Root∧(M.plain c i).Vector=c.Vector∧(M.plain c i).Timer=c.Timer:=by
 unfold M.plain
 cases decide (i.Op=1) <;> cases decide (i.Op=2) <;> cases decide (i.Op=15) <;> cases decide (i.Op=5) <;> cases decide (i.Op=6) <;> cases decide (M.reg c i.A=0) <;> exact ⟨rfl,rfl,rfl⟩
theorem mdo_keeps {b:DBare} (hb:BOk b) (hu:b.C.User=true) {i:DIns} (hi:M.insOk i=true) (ho:i.Op=3∨i.Op=4):Keeps b (M.mdo b i)∧OneWord b (M.mdo b i):=by
 obtain ⟨op,a,n⟩:=i
 simp only [M.insOk,Bool.and_eq_true,M.inR_iff] at hi
 obtain ⟨⟨⟨o0,o1⟩,a0,a1⟩,n0,n1⟩:=hi
 have hl:=hb.len
 have g:=hb.reg (k:=n % 4) (by omega) (by omega)
 unfold M.mdo
 simp only at ho ⊢
 by_cases h:M.walk b.Mem b.C.Root (M.reg b.C (n % 4) % 64) b.C.User (decide (op=4)) = -1
 · rw [decide_eq_true h]; exact ⟨⟨rfl,rfl,rfl,rfl,rfl⟩,oneWord_same rfl⟩
 · have hw:=walk_lt _ _ _ _ _ h
   rw [decide_eq_false h]
   rcases ho with rfl | rfl
   · exact ⟨⟨rfl,rfl,rfl,rfl,rfl⟩,oneWord_same rfl⟩
   · refine ⟨⟨rfl,rfl,rfl,rfl,rfl⟩,M.walk b.Mem b.C.Root (M.reg b.C (n % 4) % 64) b.C.User true,fun k k0 k1 hne=>?_⟩
     simp only [decide_true] at hw
     have hne:(b.Mem.set (M.walk b.Mem b.C.Root (M.reg b.C (n % 4) % 64) b.C.User true).toNat (M.reg b.C a)).getD k.toNat default≠b.Mem.getD k.toNat default:=hne
     have hk:k=M.walk b.Mem b.C.Root (M.reg b.C (n % 4) % 64) b.C.User true:=by
      by_cases e:k=M.walk b.Mem b.C.Root (M.reg b.C (n % 4) % 64) b.C.User true
      · exact e
      · exfalso; apply hne
        simp only [List.getD]
        rw [List.getElem?_set_ne (by omega)]
     exact ⟨hk,M.reg b.C (n % 4) % 64,by omega,by omega,by rw [hk,hu]⟩
theorem did_keeps {b:DBare} (hb:BOk b) (hu:b.C.User=true) {i:DIns} (hi:M.insOk i=true):Keeps b (M.did b i)∧OneWord b (M.did b i):=by
 unfold M.did
 cases M.kern i.Op with
 | true=>rw [hu]; exact ⟨⟨rfl,rfl,rfl,rfl,rfl⟩,oneWord_same rfl⟩
 | false =>
  by_cases h3:i.Op=3
  · rw [decide_eq_true h3]; exact mdo_keeps hb hu hi (.inl h3)
  · by_cases h4:i.Op=4
    · rw [decide_eq_true h4,Bool.or_true]; exact mdo_keeps hb hu hi (.inr h4)
    · rw [decide_eq_false h3,decide_eq_false h4]
      have p:=plain_keeps b.C i
      exact ⟨⟨p.1,p.2.1,p.2.2,rfl,rfl⟩,oneWord_same rfl⟩
theorem step_keeps {b:DBare} (hb:BOk b) (hu:b.C.User=true) (hs:b.C.Stopped=false):Keeps (M.with_ b (M.tick b.C)) (M.step b)∧OneWord (M.with_ b (M.tick b.C)) (M.step b):=by
 have ht:=hb.tick
 unfold M.step
 rw [hs]
 simp only [cond_false]
 cases (M.tick b.C).Waits && (M.tick b.C).On with
 | true=>exact ⟨⟨rfl,rfl,rfl,rfl,rfl⟩,oneWord_same rfl⟩
 | false =>
 simp only [cond_false]
 by_cases h:M.walk b.Mem (M.tick b.C).Root (M.tick b.C).Pc (M.tick b.C).User false = -1
 · rw [decide_eq_true h]; exact ⟨⟨rfl,rfl,rfl,rfl,rfl⟩,oneWord_same rfl⟩
 · have hw:=walk_lt _ _ _ _ _ h
   have hm:=mem_word hb hw.1 hw.2
   rw [decide_eq_false h]
   exact did_keeps ht (by show (M.tick b.C).User=true; rw [tick_user]; exact hu) (ins_ok hm.1 hm.2)
theorem may_loop {b:DBare} {t at_:Int} (hl:b.Mem.length≤9223372036854775806) (hw:∃ a,0≤a∧a<64∧M.walk b.Mem b.C.Root a true true=at_) :
 Ex (Option.bind (iter (F_laws_FnBareStep_l17 b (t,at_)) (false,(0:Int))) LO.val) (fun j=>∃ m,j = .go m∧m=true):=by
 refine Ex.loopv (fun s:Bool × Int=>0≤s.2∧s.2≤64∧(s.1=false→∀ a,0≤a→a<s.2→M.walk b.Mem b.C.Root a true true≠at_)) (fun s=>64 - s.2.toNat) (fun m=>m=true) ⟨by simp,by simp,fun _ a h0 h1=>by simp only at h1; omega⟩ ?_
 rintro ⟨m,k⟩ ⟨k0,k1,hm⟩
 simp only at k0 k1 hm
 unfold F_laws_FnBareStep_l17
 refine Ex.cond (fun hk=>?_) fun hk=>?_
 · have hk:k<64:=of_decide_eq_true hk
   refine Ex.join (P:=fun m2:Bool=>m2=false→∀ a,0≤a→a<k+1→M.walk b.Mem b.C.Root a true true≠at_) ?_ fun m2 h2=>?_
   · cases m with
     | true=>exact Ex.ret ⟨_,rfl,fun h=>by cases h⟩
     | false =>
      simp only [cond_false]
      rw [walk_i hl,Option.bind_some]
      refine Ex.ret ⟨_,rfl,fun h a a0 a1=>?_⟩
      have h:=of_decide_eq_false h
      by_cases e:a=k
      · rw [e]; exact h
      · exact hm rfl a a0 (by omega)
   · unfold F_laws_FnBareStep_j18
     rw [w64_in (by simp only; omega) (by simp only; omega)]
     refine Ex.ret (.inl ⟨_,rfl,⟨?_,?_,h2⟩,?_⟩)
     · show 0≤k+1; omega
     · show k+1≤64; omega
     · show 64 - (k+1).toNat<64 - k.toNat; omega
 · have hk:¬ k<64:=of_decide_eq_false hk
   refine Ex.ret (.inr ⟨_,rfl,?_⟩)
   show m=true
   cases m with
   | true=>rfl
   | false =>
    obtain ⟨a,a0,a1,ha⟩:=hw
    exact absurd ha (hm rfl a a0 (by omega))
theorem mem_loop_law {b o:DBare} (hl:b.Mem.length=64) (hl2:o.Mem.length=64) (h:OneWord b o) :
 Ex (Option.bind (iter (F_laws_FnBareStep_l14 b o) ((0:Int),(0:Int))) LO.val) (fun j=>∃ t,j = .go t∧t≤1):=by
 obtain ⟨p,hp⟩:=h
 refine Ex.loopv (fun s:Int × Int=>0≤s.2∧s.2≤64∧(s.1=0∨(s.1=1∧p<s.2))) (fun s=>64 - s.2.toNat) (fun t=>t≤1) ⟨by simp,by simp,.inl rfl⟩ ?_
 rintro ⟨t,k⟩ ⟨k0,k1,ht⟩
 simp only at k0 k1 ht
 unfold F_laws_FnBareStep_l14
 refine Ex.cond (fun hk=>?_) fun hk=>?_
 · have hk:k<((b.Mem.length:Nat):Int):=of_decide_eq_true hk
   refine Ex.join (P:=fun t2:Int=>t2=0∨(t2=1∧p<k+1)) ?_ fun t2 h2=>?_
   · refine Ex.grd ⟨k0,by simp only; omega⟩ (Ex.grd ⟨k0,hk⟩ ?_)
     refine Ex.cond (fun _=>Ex.ret ⟨_,rfl,?_⟩) fun hne=>?_
     · rcases ht with h | ⟨h,h'⟩
       · exact .inl h
       · exact .inr ⟨h,by omega⟩
     · have hne:=of_decide_eq_false hne
       obtain ⟨e,hw⟩:=hp k k0 (by omega) hne
       have ht0:t=0:=by omega
       refine Ex.join (P:=fun m=>m=true) (may_loop (b:=b) (by omega) hw) fun m hm=>?_
       unfold F_laws_FnBareStep_j16
       rw [hm,ht0]
       exact Ex.ret ⟨_,rfl,.inr ⟨rfl,by omega⟩⟩
   · unfold F_laws_FnBareStep_j15
     rw [w64_in (by simp only; omega) (by simp only; omega)]
     refine Ex.ret (.inl ⟨_,rfl,⟨?_,?_,h2⟩,?_⟩)
     · show 0≤k+1; omega
     · show k+1≤64; omega
     · show 64 - (k+1).toNat<64 - k.toNat; omega
 · refine Ex.ret (.inr ⟨_,rfl,?_⟩)
   show t≤1; omega
theorem fnBareStep_e {xs:List Int} (hx:∀ x ∈ xs,0≤x∧x≤255):Ex (F_laws_FnBareStep xs) (fun b=>b=true):=by
 have al:Ex (Option.bind F_laws_alive fun v=>some v) (fun b=>b=true):=Ex.bind (alive_d (Q:=fun b=>b=true) rfl) fun b hb=>Ex.ret hb
 unfold F_laws_FnBareStep
 refine Ex.cond (fun _=>Ex.ret rfl) fun _=>?_
 refine Ex.bind (bareStep_d hx) fun b t=>?_
 have hs:=t.small
 rw [bareStep_i hs,Option.bind_some,bareStep_s hs,Option.bind_some,bareOk_i hs]
 cases hok:M.bareOk b with
 | false =>
  have e:M.bareStep b=M.zero:=by simp only [M.bareStep,hok,cond_false]
  rw [e,sameBare_refl zero_small]
  exact al
 | true =>
  have hb:=bOk_iff.1 hok
  have ho:=step_ok hb
  have e:M.bareStep b=M.step b:=by simp only [M.bareStep,hok,cond_true]
  rw [e,sameBare_refl ho.small]
  simp only [Option.bind_some,Bool.not_true,cond_false]
  refine Ex.join (P:=fun _:Unit=>True) ?_ fun _ _=>?_
  · rw [bareOk_i ho.small,bOk_iff.2 ho]
    simp only [Option.bind_some,Bool.not_true,cond_false]
    cases hst:b.C.Stopped with
    | false=>exact Ex.ret ⟨_,rfl,trivial⟩
    | true =>
     have e2:M.step b=b:=by unfold M.step; rw [hst]; rfl
     rw [e2,sameBare_refl hb.small]
     exact Ex.ret ⟨_,rfl,trivial⟩
  · unfold F_laws_FnBareStep_j7
    cases hu:b.C.User with
    | false=>exact al
    | true =>
     cases hst:b.C.Stopped with
     | true=>exact al
     | false =>
      obtain ⟨k,w⟩:=step_keeps hb hu hst
      have h1:(M.step b).C.Root=b.C.Root:=k.root.trans (tick_root _)
      have h2:(M.step b).C.Vector=b.C.Vector:=k.vec.trans (tick_vec _)
      have h3:(M.step b).C.Timer=max (b.C.Timer - 1) 0:=k.timer.trans (tick_timer hb.timer.1)
      have h4:(M.step b).In=b.In:=k.i
      have h5:(M.step b).Out=b.Out:=k.o
      have w':OneWord b (M.step b):=by
       obtain ⟨p,hp⟩:=w
       refine ⟨p,fun q q0 q1 hne=>?_⟩
       obtain ⟨g1,a,a0,a1,ga⟩:=hp q q0 q1 hne
       exact ⟨g1,a,a0,a1,by rw [← tick_root b.C]; exact ga⟩
      have hti:=hb.timer
      have hi:=hb.inn; have hoo:=hb.out
      rw [w64_in (z:=b.C.Timer - 1) (by omega) (by omega),decide_eq_true h1,decide_eq_true h2,decide_eq_true h3,h4,h5,sameInts_eq (by omega),sameInts_eq (by omega)]
      simp only [decide_true,Bool.not_true,cond_false,Option.bind_some]
      refine Ex.join (mem_loop_law hb.len ho.len w') fun tt ht=>?_
      unfold F_laws_FnBareStep_j12
      rw [decide_eq_true ht]
      exact al
theorem fnBareStep_t {xs:List Int} (hx:∀ x ∈ xs,0≤x∧x≤255):F_laws_FnBareStep xs=some true:=by
 obtain ⟨_,h,rfl⟩:=fnBareStep_e hx; exact h
end Go.Proofs.Ytbanbjdcgdmkaaa
namespace Go.Proofs.Ytbanbjdcgdmkaaa
set_option linter.all false
namespace M
def steps:Nat→DBare→DBare
 | 0,b=>b
 | n+1,b=>step (steps n b)
def bareRun (b:DBare) (n:Int):DBare:=bif bareOk b && inR 0 300 n then steps n.toNat b else zero
end M
theorem steps_ok {b:DBare} (hb:BOk b):∀ n,BOk (M.steps n b)
 | 0=>hb
 | n+1=>step_ok (steps_ok hb n)
abbrev RSx:=(List Int) × Int × Int × Int × Int × Bool × Int × Int × Int × Bool × Bool × Bool × Bool × (List Int) × (List Int) × (List Int)
abbrev RSt:=(List Int) × Int × Int × Int × Int × Bool × Int × Int × Int × Bool × Bool × Bool × Bool × (List Int) × (List Int) × (List Int) × Int
def run_un (s:RSt):DBare:=⟨⟨s.1,s.2.1,s.2.2.1,s.2.2.2.1,s.2.2.2.2.1,s.2.2.2.2.2.1,s.2.2.2.2.2.2.1,s.2.2.2.2.2.2.2.1,s.2.2.2.2.2.2.2.2.1,s.2.2.2.2.2.2.2.2.2.1,s.2.2.2.2.2.2.2.2.2.2.1,s.2.2.2.2.2.2.2.2.2.2.2.1,s.2.2.2.2.2.2.2.2.2.2.2.2.1⟩,s.2.2.2.2.2.2.2.2.2.2.2.2.2.1,s.2.2.2.2.2.2.2.2.2.2.2.2.2.2.1,s.2.2.2.2.2.2.2.2.2.2.2.2.2.2.2.1⟩
def run_k (s:RSt):Int:=s.2.2.2.2.2.2.2.2.2.2.2.2.2.2.2.2
def run_unx (s:RSx):DBare:=⟨⟨s.1,s.2.1,s.2.2.1,s.2.2.2.1,s.2.2.2.2.1,s.2.2.2.2.2.1,s.2.2.2.2.2.2.1,s.2.2.2.2.2.2.2.1,s.2.2.2.2.2.2.2.2.1,s.2.2.2.2.2.2.2.2.2.1,s.2.2.2.2.2.2.2.2.2.2.1,s.2.2.2.2.2.2.2.2.2.2.2.1,s.2.2.2.2.2.2.2.2.2.2.2.2.1⟩,s.2.2.2.2.2.2.2.2.2.2.2.2.2.1,s.2.2.2.2.2.2.2.2.2.2.2.2.2.2.1,s.2.2.2.2.2.2.2.2.2.2.2.2.2.2.2⟩
def run_tp (b:DBare) (k:Int):RSt:=(b.C.Regs,b.C.Pc,b.C.Root,b.C.Vector,b.C.Saved,b.C.SavedUser,b.C.Cause,b.C.Bad,b.C.Timer,b.C.Waits,b.C.User,b.C.On,b.C.Stopped,b.Mem,b.In,b.Out,k)
def run_tx (b:DBare):RSx:=(b.C.Regs,b.C.Pc,b.C.Root,b.C.Vector,b.C.Saved,b.C.SavedUser,b.C.Cause,b.C.Bad,b.C.Timer,b.C.Waits,b.C.User,b.C.On,b.C.Stopped,b.Mem,b.In,b.Out)
section
variable {b : DBare} {n : Int}
theorem run_loop (hb:BOk b) (h1:n≤300) {step:RSt→Option (LO RSt (JO RSx DBare))} {f:DBare→Option DBare} (hf:∀ b,BOk b→f b=some (M.step b))
 (e:∀ s,step s=cond (decide (run_k s<n)) (Option.bind (f (run_un s)) fun v=>some (.next (run_tp v (w64 (run_k s+1))))) (some (.ret (.go (run_tx (run_un s)))))) (h0:0≤n) :
 Ex (Option.bind (iter step (run_tp b 0)) LO.val) (fun j=>∃ t,j = .go t∧run_unx t=M.steps n.toNat b):=by
 refine Ex.loopv (fun s=>0≤run_k s∧run_k s≤n∧run_un s=M.steps (run_k s).toNat b) (fun s=>n.toNat - (run_k s).toNat) (fun t=>run_unx t=M.steps n.toNat b) ⟨Int.le_refl _,h0,rfl⟩ ?_
 rintro s ⟨k0,k1,k2⟩
 rw [e]
 refine Ex.cond (fun hk=>?_) fun hk=>?_
 · have hk:run_k s<n:=of_decide_eq_true hk
   rw [k2,hf _ (steps_ok hb _),Option.bind_some,w64_in (by omega) (by omega)]
   refine Ex.ret (.inl ⟨_,rfl,⟨?_,?_,?_⟩,?_⟩)
   · show 0≤run_k s+1; omega
   · show run_k s+1≤n; omega
   · show M.step (M.steps (run_k s).toNat b)=M.steps (run_k s+1).toNat b
     rw [show (run_k s+1).toNat=(run_k s).toNat+1 by omega]; rfl
   · show n.toNat - (run_k s+1).toNat<n.toNat - (run_k s).toNat; omega
 · have hk:¬ run_k s<n:=of_decide_eq_false hk
   refine Ex.ret (.inr ⟨_,rfl,?_⟩)
   show run_un s=_
   rw [k2,show run_k s=n by omega]
theorem bareRun_i (h:SmallB b):F_impl_BareRun b n=some (M.bareRun b n):=by
 unfold F_impl_BareRun M.bareRun
 rw [bareOk_i h,Option.bind_some]
 cases hok:M.bareOk b with
 | false=>rfl
 | true =>
  have hb:=bOk_iff.1 hok
  simp only [Bool.not_true,cond_false,Bool.true_and,M.inR]
  by_cases h0:n<0
  · rw [decide_eq_true h0,decide_eq_false (show ¬ 0≤n by omega)]; rfl
  · rw [decide_eq_false h0,decide_eq_true (show 0≤n by omega)]
    by_cases h1:300<n
    · rw [decide_eq_true h1,decide_eq_false (show ¬ n≤300 by omega)]; rfl
    · rw [decide_eq_false h1,decide_eq_true (show n≤300 by omega)]
      obtain ⟨_,g1,t,rfl,g2⟩:=run_loop (step:=F_impl_BareRun_l4 n) hb (by omega) (f:=F_impl_stepped) (fun b hb=>stepped_i hb) (fun s=>rfl) (by omega)
      simp only [cond_false,Bool.and_self,cond_true]
      rw [show (b.C.Regs,b.C.Pc,b.C.Root,b.C.Vector,b.C.Saved,b.C.SavedUser,b.C.Cause,b.C.Bad,b.C.Timer,b.C.Waits,b.C.User,b.C.On,b.C.Stopped,b.Mem,b.In,b.Out,(0:Int))=run_tp b 0 from rfl,g1,Option.bind_some]
      show Option.bind (F_impl_copiedBare (run_unx t)) (fun v=>some v)=_
      rw [g2,copiedBare_i (steps_ok hb _).small]; rfl
theorem bareRun_s (h:SmallB b):F_spec_BareRun b n=some (M.bareRun b n):=by
 unfold F_spec_BareRun M.bareRun
 rw [bareOk_s h,Option.bind_some,l1In_s]
 cases hok:M.bareOk b with
 | false=>rfl
 | true =>
  have hb:=bOk_iff.1 hok
  simp only [Bool.not_true,cond_false,Bool.true_and,Option.bind_some]
  cases hr:M.inR 0 300 n with
  | false=>rfl
  | true =>
   have hr:=M.inR_iff.1 hr
   obtain ⟨_,g1,t,rfl,g2⟩:=run_loop (step:=F_spec_BareRun_l5 n) hb (by omega) (f:=F_spec_BareStep) (fun b hb=>by rw [bareStep_s hb.small,M.bareStep,bOk_iff.2 hb]; rfl) (fun s=>rfl) (by omega)
   simp only [Bool.not_true,cond_false,cond_true]
   rw [copy_s h,Option.bind_some]
   rw [show (b.C.Regs,b.C.Pc,b.C.Root,b.C.Vector,b.C.Saved,b.C.SavedUser,b.C.Cause,b.C.Bad,b.C.Timer,b.C.Waits,b.C.User,b.C.On,b.C.Stopped,b.Mem,b.In,b.Out,(0:Int))=run_tp b 0 from rfl,g1,Option.bind_some]
   show some (run_unx t)=_
   rw [g2]
theorem bareRun_small (b:DBare) (n:Int):SmallB (M.bareRun b n):=by
 unfold M.bareRun
 cases h:M.bareOk b with
 | true =>
  cases M.inR 0 300 n with
  | true=>exact (steps_ok (bOk_iff.1 h) _).small
  | false=>exact zero_small
 | false=>exact zero_small
end
end Go.Proofs.Ytbanbjdcgdmkaaa
namespace Go.Proofs.Ytbanbjdcgdmkaaa
set_option linter.all false
theorem steps_add (b:DBare) (m:Nat):∀ k,M.steps k (M.steps m b)=M.steps (m+k) b
 | 0=>rfl
 | k+1=>by show M.step (M.steps k (M.steps m b))=M.step (M.steps (m+k) b); rw [steps_add b m k]
theorem bareRun_ok {b:DBare} (hb:BOk b) {n:Int} (h0:0≤n) (h1:n≤300):M.bareRun b n=M.steps n.toNat b:=by
 unfold M.bareRun
 rw [bOk_iff.2 hb,M.inR_iff.2 ⟨h0,h1⟩]; rfl
theorem bareRun_d {xs:List Int} (hb:∀ x ∈ xs,0≤x∧x≤255):Ex (F_spec_DrawBareRun xs) (fun v=>Tiny v.1∧v.2≤59∧-70≤v.2):=by
 unfold F_spec_DrawBareRun
 refine Ex.bind (open_d hb) fun r R=>?_
 refine Ex.bind (bare_d R (by omega) (by omega)) fun v2 ⟨R2,t2,_⟩=>?_
 refine Ex.bind (pick_d R2 (by omega) (by omega)) fun v3 ⟨R3,a3,b3⟩=>?_
 refine Ex.bind (pick_d R3 (by omega) (by omega)) fun v4 ⟨R4,a4,b4⟩=>?_
 have e:Int.tdiv v4.2 19=v4.2 / 19:=Int.tdiv_eq_ediv_of_nonneg a4
 rw [e,w64_in (z:=v4.2 / 19) (by omega) (by omega),w64_in (z:=v4.2 / 19*70) (by omega) (by omega),w64_in (by omega) (by omega)]
 exact Ex.ret ⟨t2,by show v3.2 - v4.2 / 19*70≤59; omega,by show -70≤v3.2 - v4.2 / 19*70; omega⟩
theorem fnBareRun_e {xs:List Int} (hx:∀ x ∈ xs,0≤x∧x≤255):Ex (F_laws_FnBareRun xs) (fun b=>b=true):=by
 have al:Ex (Option.bind F_laws_alive fun v=>some v) (fun b=>b=true):=Ex.bind (alive_d (Q:=fun b=>b=true) rfl) fun b hb=>Ex.ret hb
 unfold F_laws_FnBareRun
 refine Ex.cond (fun _=>Ex.ret rfl) fun _=>?_
 refine Ex.bind (bareRun_d hx) fun v ⟨t,n1,n0⟩=>?_
 obtain ⟨b,n⟩:=v
 simp only at t n0 n1 ⊢
 have hs:=t.small
 rw [bareRun_i hs,Option.bind_some,bareRun_s hs,Option.bind_some,sameBare_refl (bareRun_small b n),bareOk_i hs]
 simp only [Option.bind_some,Bool.not_true,cond_false]
 cases hok:M.bareOk b with
 | false =>
  have e:M.bareRun b n=M.zero:=by simp only [M.bareRun,hok,Bool.false_and,cond_false]
  rw [e]
  exact al
 | true =>
  have hb:=bOk_iff.1 hok
  simp only [Bool.not_true,cond_false]
  by_cases h0:n<0
  · have e:M.bareRun b n=M.zero:=by
     have:M.inR 0 300 n=false:=by
      rw [Bool.eq_false_iff]; intro h; have:=M.inR_iff.1 h; omega
     simp only [M.bareRun,this,Bool.and_false,cond_false]
    rw [decide_eq_true h0,e]
    exact al
  · have eh:Int.tdiv n 2=n / 2:=Int.tdiv_eq_ediv_of_nonneg (by omega)
    rw [decide_eq_false h0,cond_false,eh,w64_in (z:=n / 2) (by omega) (by omega),w64_in (z:=n - n / 2) (by omega) (by omega),bareRun_ok hb (n:=n) (by omega) (by omega),bareRun_i hs,bareRun_ok hb (n:=n / 2) (by omega) (by omega),Option.bind_some]
    have h2:=steps_ok hb (n / 2).toNat
    have ho:=steps_ok hb n.toNat
    rw [bareRun_i h2.small,bareRun_ok h2 (n:=n - n / 2) (by omega) (by omega),Option.bind_some,steps_add,show (n / 2).toNat+(n - n / 2).toNat=n.toNat by omega,sameBare_refl ho.small,Option.bind_some,cond_true]
    cases hst:(M.steps n.toNat b).C.Stopped with
    | false=>exact al
    | true =>
     have e2:M.step (M.steps n.toNat b)=M.steps n.toNat b:=by unfold M.step; rw [hst]; rfl
     rw [bareStep_i ho.small,show M.bareStep (M.steps n.toNat b)=M.steps n.toNat b by rw [M.bareStep,bOk_iff.2 ho,cond_true,e2]]
     simp only [Bool.not_true,cond_false,Option.bind_some,sameBare_refl ho.small,cond_true]
     exact al
theorem fnBareRun_t {xs:List Int} (hx:∀ x ∈ xs,0≤x∧x≤255):F_laws_FnBareRun xs=some true:=by
 obtain ⟨_,h,rfl⟩:=fnBareRun_e hx; exact h
end Go.Proofs.Ytbanbjdcgdmkaaa
