/- The plain functions: what they answer. -/
import Derived.Test.YtbanbjdcgdmkaaaZY
import Derived.Test.YtbanbjdcgdmkaaaWO1
import Derived.Test.YtbanbjdcgdmkaaaWSO1
import Derived.Test.YtbanbjdcgdmkaaaWWK1
import Derived.Test.YtbanbjdcgdmkaaaWU1
import Derived.Test.YtbanbjdcgdmkaaaWHC1
import Derived.Test.YtbanbjdcgdmkaaaWKI1
import Derived.Test.YtbanbjdcgdmkaaaWKT1
import Derived.Test.YtbanbjdcgdmkaaaWKD1
import Derived.Test.YtbanbjdcgdmkaaaWKC1
import Derived.Test.YtbanbjdcgdmkaaaWBS1
import Derived.Test.YtbanbjdcgdmkaaaWKP1
import Derived.Test.YtbanbjdcgdmkaaaWBT1
import Derived.Test.YtbanbjdcgdmkaaaWH1
import Derived.Test.YtbanbjdcgdmkaaaWHX1
import Derived.Test.YtbanbjdcgdmkaaaWEU1
import Derived.Test.YtbanbjdcgdmkaaaWBR1
import Derived.Test.YtbanbjdcgdmkaaaWEV1
namespace Go.Proofs.Ytbanbjdcgdmkaaa
set_option linter.all false
theorem getD_lt {α:Type} [Inhabited α] {xs:List α} {i:Nat} (h:i<xs.length):xs.getD i default=xs[i]:=by simp [List.getD,h]
namespace M
def inR (lo hi n:Int):Bool:=decide (lo≤n) && decide (n≤hi)
def wordOk (n:Int):Bool:=inR 0 4095 n
def wordsOk (xs:List Int):Bool:=xs.all wordOk
def memOk (xs:List Int):Bool:=decide (xs.length=64) && wordsOk xs
theorem inR_iff {lo hi n:Int}:inR lo hi n=true↔lo≤n∧n≤hi:=by simp [inR]
end M
theorem cond_bs {b y:Bool}:(cond b (some y) (some false))=some (b && y):=by cases b <;> rfl
theorem wordOk_i (n:Int):F_impl_WordOk n=some (M.wordOk n):=by
 unfold F_impl_WordOk; rw [cond_bs]; rfl
theorem l1In_s (n lo hi:Int):F_spec_l1In n lo hi=some (M.inR lo hi n):=by
 unfold F_spec_l1In; rw [cond_bs]; rfl
theorem wordOk_s (n:Int):F_spec_WordOk n=some (M.wordOk n):=by
 unfold F_spec_WordOk; rw [l1In_s]; rfl
theorem lt_le {a b:Int}:decide (a<b+1)=decide (a≤b):=by rw [decide_eq_decide]; omega
theorem all_loop {T:Type} [Inhabited T] {xs:List T} {Pf:T→Option Bool} {p:T→Bool} (hP:∀ x,Pf x=some (p x)) (hl:xs.length≤9223372036854775806) (step:Int→Option (LO Int (JO Unit Bool)))
 (hs:∀ k,step k=cond (decide (k<((List.length xs:Nat):Int))) (grd ((0:Int)≤k∧k<((List.length xs:Nat):Int)) (Option.bind (Pf (List.getD xs (Int.toNat k) default)) fun v=>cond (!v) (some (.ret (.out false))) (some (.next (w64 (k+(1:Int))))))) (some (.ret (.go ())))) :
 iter step 0=some (.ret (bif xs.all p then .go () else .out false)):=by
 have key:∀ k:Int,(0≤k∧k≤(xs.length:Int))→iter step k=some (.ret (bif (xs.drop k.toNat).all p then .go () else .out false)):=by
  refine iter_rec _ (fun k=>xs.length - k.toNat) _ ?_
  rintro k ⟨h0,h1⟩
  by_cases hk:k<xs.length
  · have e1:xs.drop k.toNat=xs.getD k.toNat default::xs.drop (k+1).toNat:=by
     rw [getD_lt (by omega),show (k+1).toNat=k.toNat+1 by omega]; exact List.drop_eq_getElem_cons (by omega)
    have hst:step k=cond (!p (xs.getD k.toNat default)) (some (.ret (.out false))) (some (.next (k+1))):=by
     rw [hs,decide_eq_true hk,cond_true,grd_t ⟨h0,hk⟩,hP,w64_in (by omega) (by omega)]; rfl
    cases hp:p (xs.getD k.toNat default) with
    | true =>
     refine .inl ⟨k+1,by rw [hst,hp]; rfl,⟨by omega,by omega⟩,by omega,?_⟩
     rw [e1,List.all_cons,hp,Bool.true_and]
    | false =>
     refine .inr ⟨fun s'=>by rw [hst,hp]; simp,?_⟩
     rw [hst,hp,e1,List.all_cons,hp]; rfl
  · have hk2:k=xs.length:=by omega
    have hf:decide (k<((List.length xs:Nat):Int))=false:=by simp; omega
    refine .inr ⟨fun s'=>by rw [hs,hf]; simp,?_⟩
    rw [hs,hf,hk2]; simp
 simpa using key 0 ⟨by omega,by omega⟩
theorem wordsOk_i {xs:List Int} (h:xs.length≤9223372036854775806):F_impl_wordsOk xs=some (M.wordsOk xs):=by
 unfold F_impl_wordsOk
 rw [all_loop wordOk_i h (F_impl_wordsOk_l2 xs) (fun k=>rfl)]
 simp only [M.wordsOk]
 cases xs.all M.wordOk <;> rfl
theorem memOk_i {xs:List Int} (h:xs.length≤9223372036854775806):F_impl_MemOk xs=some (M.memOk xs):=by
 unfold F_impl_MemOk
 rw [wordsOk_i h]
 show cond _ (some _) (some false)=_
 rw [cond_bs]
 simp only [M.memOk]
 congr 2
 rw [decide_eq_decide]; omega
theorem memOk_s {xs:List Int} (h:xs.length≤9223372036854775806):F_spec_MemOk xs=some (M.memOk xs):=by
 unfold F_spec_MemOk
 rw [all_loop wordOk_s h (F_spec_MemOk_l2 xs) (fun k=>rfl)]
 simp only [M.memOk,M.wordsOk]
 cases xs.all M.wordOk
 · simp [LO.val,JO.run]
 · simp only [LO.val,JO.run,Option.bind_some,F_spec_MemOk_j1,cond_true,Bool.and_true]
   congr 1; rw [decide_eq_decide]; omega
theorem memOk_len {xs:List Int} (h:M.memOk xs=true):xs.length=64:=by
 simp only [M.memOk,Bool.and_eq_true,decide_eq_true_eq] at h; exact h.1
theorem wordsOk_get {xs:List Int} (h:M.wordsOk xs=true) {i:Nat} (hi:i<xs.length):0≤xs.getD i default∧xs.getD i default≤4095:=by
 rw [getD_lt hi]
 exact M.inR_iff.1 (List.all_eq_true.1 h _ (List.getElem_mem hi))
theorem wordsOk_set {xs:List Int} (h:M.wordsOk xs=true) {i:Nat} {w:Int} (h0:0≤w) (h1:w≤4095):M.wordsOk (xs.set i w)=true:=by
 refine List.all_eq_true.2 fun x hx=>?_
 rcases List.mem_or_eq_of_mem_set hx with h2 | rfl
 · exact List.all_eq_true.1 h x h2
 · exact M.inR_iff.2 ⟨h0,h1⟩
end Go.Proofs.Ytbanbjdcgdmkaaa
namespace Go.Proofs.Ytbanbjdcgdmkaaa
set_option linter.all false
def dec (w:Int):DEntry:=⟨decide (w % 2=1),decide (w / 2 % 2=1),decide (w / 4 % 2=1),w / 8 % 8⟩
theorem dec_page (w:Int):0≤(dec w).Page∧(dec w).Page≤7:=by simp only [dec]; omega
theorem div_in {w k:Int} (h0:0≤w) (h1:w≤4095) (hk:1≤k):w64 (Int.tdiv w k)=w / k∧0≤w / k:=by
 have e:Int.tdiv w k=w / k:=Int.tdiv_eq_ediv_of_nonneg h0
 have g0:0≤w / k:=Int.ediv_nonneg h0 (by omega)
 have g1:w / k≤w:=Int.ediv_le_self k h0
 rw [e,w64_in (by omega) (by omega)]; exact ⟨rfl,g0⟩
theorem entryFrom_i {w:Int} (h0:0≤w) (h1:w≤4095):F_impl_EntryFrom w=some (dec w):=by
 unfold F_impl_EntryFrom
 rw [wordOk_i,show M.wordOk w=true from M.inR_iff.2 ⟨h0,h1⟩]
 simp only [Option.bind_some,Bool.not_true,cond_false]
 rw [(div_in h0 h1 (k:=1) (by omega)).1,(div_in h0 h1 (k:=2) (by omega)).1,(div_in h0 h1 (k:=4) (by omega)).1,(div_in h0 h1 (k:=8) (by omega)).1,Int.tmod_eq_emod_of_nonneg (div_in h0 h1 (k:=1) (by omega)).2,Int.tmod_eq_emod_of_nonneg (div_in h0 h1 (k:=2) (by omega)).2,Int.tmod_eq_emod_of_nonneg (div_in h0 h1 (k:=4) (by omega)).2,Int.tmod_eq_emod_of_nonneg (div_in h0 h1 (k:=8) (by omega)).2,Int.ediv_one]
 rfl
theorem entryFrom_s {w:Int} (h0:0≤w) (h1:w≤4095):F_spec_EntryFrom w=some (dec w):=by
 unfold F_spec_EntryFrom
 rw [wordOk_s,show M.wordOk w=true from M.inR_iff.2 ⟨h0,h1⟩]
 simp only [Option.bind_some,Bool.not_true,cond_false]
 rw [(div_in h0 h1 (k:=2) (by omega)).1,(div_in h0 h1 (k:=4) (by omega)).1,(div_in h0 h1 (k:=8) (by omega)).1,Int.tmod_eq_emod_of_nonneg h0,Int.tmod_eq_emod_of_nonneg (div_in h0 h1 (k:=2) (by omega)).2,Int.tmod_eq_emod_of_nonneg (div_in h0 h1 (k:=4) (by omega)).2,Int.tmod_eq_emod_of_nonneg (div_in h0 h1 (k:=8) (by omega)).2]
 rfl
end Go.Proofs.Ytbanbjdcgdmkaaa
namespace Go.Proofs.Ytbanbjdcgdmkaaa
set_option linter.all false
theorem addressOk_i (n:Int):F_impl_addressOk n=some (M.inR 0 63 n):=by
 unfold F_impl_addressOk; rw [cond_bs,show (64:Int)=63+1 from rfl,lt_le]; rfl
theorem pageOk_i (n:Int):F_impl_pageOk n=some (M.inR 0 7 n):=by
 unfold F_impl_pageOk; rw [cond_bs,show (8:Int)=7+1 from rfl,lt_le]; rfl
theorem rootOk_i (n:Int):F_impl_rootOk n=some (M.inR (-1) 7 n):=by
 unfold F_impl_rootOk
 rw [pageOk_i]
 by_cases h:n = -1
 · subst h; rfl
 · rw [decide_eq_false h]
   show some (M.inR 0 7 n)=_
   congr 1
   simp only [M.inR]
   congr 1
   rw [decide_eq_decide]; omega
end Go.Proofs.Ytbanbjdcgdmkaaa
namespace Go.Proofs.Ytbanbjdcgdmkaaa
set_option linter.all false
namespace M
def lets (e:DEntry) (user write:Bool):Bool:=e.There && (e.Write || !write) && (e.User || !user)
def walk (mem:List Int) (root addr:Int) (user write:Bool):Int :=
 bif memOk mem && inR (-1) 7 root && inR 0 63 addr then
  bif decide (root = -1) then addr else
   bif lets (dec (mem.getD (root*8+addr / 8).toNat default)) user write then (dec (mem.getD (root*8+addr / 8).toNat default)).Page*8+addr % 8 else -1
 else -1
end M
theorem memOk_words {xs:List Int} (h:M.memOk xs=true):M.wordsOk xs=true:=(Bool.and_eq_true _ _ ▸ h).2
theorem lets_i (e:DEntry) (user write:Bool):F_impl_entryLets e user write=some (M.lets e user write):=by
 obtain ⟨t,w,u,p⟩:=e
 unfold F_impl_entryLets
 cases t <;> cases w <;> cases u <;> cases user <;> cases write <;> rfl
theorem walk_i {mem:List Int} {root addr:Int} {user write:Bool} (hl:mem.length≤9223372036854775806):F_impl_Walk mem root addr user write=some (M.walk mem root addr user write):=by
 unfold F_impl_Walk M.walk
 rw [memOk_i hl,rootOk_i,addressOk_i]
 cases hm:M.memOk mem with
 | false=>simp only [Option.bind_some,Bool.not_false,cond_true,Bool.false_and,cond_false]
 | true =>
  cases hr:M.inR (-1) 7 root with
  | false=>simp only [Option.bind_some,Bool.not_false,Bool.not_true,cond_true,Bool.false_and,Bool.and_false,cond_false]
  | true =>
   cases ha:M.inR 0 63 addr with
   | false=>simp only [Option.bind_some,Bool.not_false,Bool.not_true,cond_true,Bool.false_and,Bool.and_false,cond_false]
   | true =>
    have hr:=M.inR_iff.1 hr
    have ha:=M.inR_iff.1 ha
    have hlen:=memOk_len hm
    simp only [Option.bind_some,Bool.not_true,cond_true,cond_false,Bool.and_self]
    by_cases h1:root = -1
    · rw [decide_eq_true h1]; rfl
    · have e1:Int.tdiv addr 8=addr / 8:=Int.tdiv_eq_ediv_of_nonneg ha.1
      have e2:Int.tmod addr 8=addr % 8:=Int.tmod_eq_emod_of_nonneg ha.1
      rw [decide_eq_false h1,cond_false,cond_false,e1,e2,w64_in (z:=root*8) (by omega) (by omega),w64_in (z:=addr / 8) (by omega) (by omega),w64_in (z:=root*8+addr / 8) (by omega) (by omega),grd_t ⟨by omega,by omega⟩]
      have hw:=wordsOk_get (memOk_words hm) (i:=(root*8+addr / 8).toNat) (by omega)
      rw [entryFrom_i hw.1 hw.2]
      generalize mem.getD (root*8+addr / 8).toNat default=w
      have hp:=dec_page w
      simp only [Option.bind_some,lets_i]
      rw [w64_in (z:=(dec w).Page*8) (by omega) (by omega),w64_in (z:=(dec w).Page*8+addr % 8) (by omega) (by omega)]
      cases M.lets (dec w) user write <;> rfl
end Go.Proofs.Ytbanbjdcgdmkaaa
namespace Go.Proofs.Ytbanbjdcgdmkaaa
set_option linter.all false
theorem walk_cases (mem:List Int) (root addr:Int) (user write:Bool):M.walk mem root addr user write = -1 ∨
 (M.memOk mem=true∧(-1≤root∧root≤7)∧(0≤addr∧addr≤63)∧0≤M.walk mem root addr user write∧M.walk mem root addr user write<64 ∧
  M.walk mem root addr false false=M.walk mem root addr user write∧M.walk mem root addr user false=M.walk mem root addr user write∧M.walk mem root (addr - addr % 8) user write=M.walk mem root addr user write - addr % 8):=by
 by_cases hm:M.memOk mem=true
 · by_cases hr:M.inR (-1) 7 root=true
   · by_cases ha:M.inR 0 63 addr=true
     · have hr2:=M.inR_iff.1 hr
       have ha2:=M.inR_iff.1 ha
       have hb:M.inR 0 63 (addr - addr % 8)=true:=M.inR_iff.2 ⟨by omega,by omega⟩
       by_cases h1:root = -1
       · have e:∀ u w,M.walk mem root addr u w=addr:=fun u w=>by simp only [M.walk,hm,hr,ha,decide_eq_true h1,Bool.and_self,cond_true]
         have e':∀ u w,M.walk mem root (addr - addr % 8) u w=addr - addr % 8:=fun u w=>by simp only [M.walk,hm,hr,hb,decide_eq_true h1,Bool.and_self,cond_true]
         rw [e,e,e,e']
         exact .inr ⟨hm,hr2,ha2,by omega,by omega,rfl,rfl,rfl⟩
       · have e:∀ u w,M.walk mem root addr u w=(bif M.lets (dec (mem.getD (root*8+addr / 8).toNat default)) u w then (dec (mem.getD (root*8+addr / 8).toNat default)).Page*8+addr % 8 else -1):=fun u w=>by
          simp only [M.walk,hm,hr,ha,decide_eq_false h1,Bool.and_self,cond_true,cond_false]
         have e':∀ u w,M.walk mem root (addr - addr % 8) u w=(bif M.lets (dec (mem.getD (root*8+addr / 8).toNat default)) u w then (dec (mem.getD (root*8+addr / 8).toNat default)).Page*8 else -1):=fun u w=>by
          simp only [M.walk,hm,hr,hb,decide_eq_false h1,Bool.and_self,cond_true,cond_false]
          rw [show (addr - addr % 8) / 8=addr / 8 by omega,show (addr - addr % 8) % 8=0 by omega]; simp
         rw [e,e,e,e']
         have hp:=dec_page (mem.getD (root*8+addr / 8).toNat default)
         generalize dec (mem.getD (root*8+addr / 8).toNat default)=x at hp ⊢
         cases hx:M.lets x user write with
         | false=>exact .inl rfl
         | true =>
          have h2:M.lets x false false=true:=by
           simp only [M.lets,Bool.and_eq_true,Bool.or_eq_true,Bool.not_false,Bool.or_true,and_true] at hx ⊢; exact hx.1.1
          have h3:M.lets x user false=true:=by
           simp only [M.lets,Bool.and_eq_true,Bool.or_eq_true,Bool.not_false,Bool.or_true,and_true] at hx ⊢; exact ⟨hx.1.1,hx.2⟩
          rw [h2,h3]
          simp only [cond_true]
          exact .inr ⟨hm,hr2,ha2,by omega,by omega,by first | trivial | rfl,by first | trivial | rfl,by omega⟩
     · exact .inl (by simp only [M.walk,Bool.eq_false_iff.2 ha,Bool.and_false,cond_false])
   · exact .inl (by simp only [M.walk,Bool.eq_false_iff.2 hr,Bool.and_false,Bool.false_and,cond_false])
 · exact .inl (by simp only [M.walk,Bool.eq_false_iff.2 hm,Bool.false_and,cond_false])
theorem walk_lt (mem:List Int) (root addr:Int) (user write:Bool) (h:¬ M.walk mem root addr user write = -1):0≤M.walk mem root addr user write∧M.walk mem root addr user write<64:=by
 rcases walk_cases mem root addr user write with h1 | ⟨_,_,_,h2,h3,_⟩
 · exact absurd h1 h
 · exact ⟨h2,h3⟩
end Go.Proofs.Ytbanbjdcgdmkaaa
namespace Go.Proofs.Ytbanbjdcgdmkaaa
set_option linter.all false
noncomputable instance:DecidableEq DCore:=fun a b=>Classical.propDecidable (a=b)
noncomputable instance:DecidableEq DBare:=fun a b=>Classical.propDecidable (a=b)
namespace M
def coreOk (c:DCore):Bool:=decide (c.Regs.length=4) && wordsOk c.Regs && (inR 0 63 c.Pc && inR 0 63 c.Vector && inR 0 63 c.Saved && inR 0 63 c.Bad) && inR (-1) 7 c.Root && inR 0 4 c.Cause && wordOk c.Timer
def rowOk (xs:List Int):Bool:=decide (xs.length≤30) && wordsOk xs
def bareOk (b:DBare):Bool:=coreOk b.C && memOk b.Mem && rowOk b.In && rowOk b.Out
end M
theorem rowOk_i {xs:List Int} (h:xs.length≤9223372036854775806):F_impl_rowOk xs=some (M.rowOk xs):=by
 unfold F_impl_rowOk
 rw [wordsOk_i h]
 show cond _ (some _) (some false)=_
 rw [cond_bs]
 simp only [M.rowOk]
 congr 2
 rw [decide_eq_decide]; omega
theorem words_s {xs:List Int} (h:xs.length≤9223372036854775806):F_spec_l3Words xs 30=some (M.rowOk xs):=by
 unfold F_spec_l3Words
 rw [all_loop wordOk_s h (F_spec_l3Words_l2 xs) (fun k=>rfl)]
 simp only [M.rowOk,M.wordsOk]
 cases xs.all M.wordOk
 · simp [LO.val,JO.run]
 · simp only [LO.val,JO.run,Option.bind_some,F_spec_l3Words_j1,cond_true,Bool.and_true]
   congr 1; rw [decide_eq_decide]; omega
theorem coreOk_i {c:DCore} (h:c.Regs.length≤9223372036854775806):F_impl_CoreOk c=some (M.coreOk c):=by
 unfold F_impl_CoreOk
 simp only [wordsOk_i h,addressOk_i,rootOk_i,wordOk_i,Option.bind_some]
 have e4:decide (((c.Regs.length:Nat):Int)=4)=decide (c.Regs.length=4):=by rw [decide_eq_decide]; omega
 rw [e4]
 simp only [M.coreOk,M.inR]
 generalize decide (c.Regs.length=4)=b0
 generalize M.wordsOk c.Regs=b1
 generalize (decide (0≤c.Pc) && decide (c.Pc≤63))=b2
 generalize (decide (0≤c.Vector) && decide (c.Vector≤63))=b3
 generalize (decide (0≤c.Saved) && decide (c.Saved≤63))=b4
 generalize (decide (0≤c.Bad) && decide (c.Bad≤63))=b5
 generalize (decide (-1≤c.Root) && decide (c.Root≤7))=b6
 generalize decide (0≤c.Cause)=b7
 generalize decide (c.Cause≤4)=b8
 generalize M.wordOk c.Timer=b9
 cases b0 <;> cases b2 <;> cases b3 <;> cases b4 <;> cases b7 <;> cases b1 <;> cases b5 <;> cases b6 <;> cases b8 <;> rfl
theorem coreOk_s {c:DCore} (h:c.Regs.length≤9223372036854775806):F_spec_CoreOk c=some (M.coreOk c):=by
 unfold F_spec_CoreOk
 rw [all_loop wordOk_s h (F_spec_CoreOk_l9 c) (fun k=>rfl)]
 simp only [M.coreOk,M.wordsOk]
 cases c.Regs.all M.wordOk
 · simp [LO.val,JO.run]
 · simp only [LO.val,JO.run,Option.bind_some,F_spec_CoreOk_j1,cond_true,Bool.and_true,l1In_s,wordOk_s]
   have e4:decide (((c.Regs.length:Nat):Int)=4)=decide (c.Regs.length=4):=by rw [decide_eq_decide]; omega
   rw [e4]
   generalize decide (c.Regs.length=4)=b0
   generalize M.inR 0 63 c.Pc=b2
   generalize M.inR 0 63 c.Vector=b3
   generalize M.inR 0 63 c.Saved=b4
   generalize M.inR 0 63 c.Bad=b5
   generalize M.inR (-1) 7 c.Root=b6
   generalize M.inR 0 4 c.Cause=b7
   generalize M.wordOk c.Timer=b9
   cases b0 <;> cases b2 <;> cases b3 <;> cases b4 <;> cases b7 <;> cases b5 <;> cases b6 <;> rfl
structure SmallC (c : DCore) : Prop where
 regs:c.Regs.length≤1048576
structure SmallB (b : DBare) : Prop where
 c:SmallC b.C
 mem:b.Mem.length≤1048576
 i:b.In.length≤1048576
 o:b.Out.length≤1048576
theorem bareOk_i {b:DBare} (h:SmallB b):F_impl_BareOk b=some (M.bareOk b):=by
 have:=h.c.regs; have:=h.mem; have:=h.i; have:=h.o
 unfold F_impl_BareOk
 simp only [coreOk_i (show b.C.Regs.length≤9223372036854775806 by omega),memOk_i (show b.Mem.length≤9223372036854775806 by omega),rowOk_i (show b.In.length≤9223372036854775806 by omega),rowOk_i (show b.Out.length≤9223372036854775806 by omega),Option.bind_some,M.bareOk]
 cases M.coreOk b.C <;> cases M.memOk b.Mem <;> cases M.rowOk b.In <;> rfl
theorem bareOk_s {b:DBare} (h:SmallB b):F_spec_BareOk b=some (M.bareOk b):=by
 have:=h.c.regs; have:=h.mem; have:=h.i; have:=h.o
 unfold F_spec_BareOk
 simp only [coreOk_s (show b.C.Regs.length≤9223372036854775806 by omega),memOk_s (show b.Mem.length≤9223372036854775806 by omega),words_s (show b.In.length≤9223372036854775806 by omega),words_s (show b.Out.length≤9223372036854775806 by omega),Option.bind_some,M.bareOk]
 cases M.coreOk b.C <;> cases M.memOk b.Mem <;> cases M.rowOk b.In <;> rfl
end Go.Proofs.Ytbanbjdcgdmkaaa
namespace Go.Proofs.Ytbanbjdcgdmkaaa
set_option linter.all false
namespace M
def insOk (x:DIns):Bool:=inR 0 15 x.Op && inR 0 3 x.A && inR 0 63 x.N
end M
theorem insOk_s (x:DIns):F_spec_InsOk x=some (M.insOk x):=by
 unfold F_spec_InsOk
 rw [l1In_s,l1In_s,l1In_s]
 simp only [Option.bind_some,M.insOk]
 cases M.inR 0 15 x.Op <;> cases M.inR 0 3 x.A <;> cases M.inR 0 63 x.N <;> rfl
end Go.Proofs.Ytbanbjdcgdmkaaa
namespace Go.Proofs.Ytbanbjdcgdmkaaa
set_option linter.all false
theorem over_all {T:Type} {xs ys:List T} (h:xs.length=ys.length):over xs 0 xs.length ys=ys:=by
 simp only [over,h,Nat.min_self,List.take_length,Nat.zero_add,List.take_zero,List.nil_append]
 rw [List.drop_eq_nil_of_le (by omega),List.append_nil]
theorem copied_eq {xs:List Int} (h:xs.length≤1048576):F_impl_copied xs=some xs:=by
 unfold F_impl_copied
 rw [grd_t ⟨by omega,by omega,by omega⟩,over_all (by simp)]
end Go.Proofs.Ytbanbjdcgdmkaaa
namespace Go.Proofs.Ytbanbjdcgdmkaaa
set_option linter.all false
namespace M
def reg (c:DCore) (k:Int):Int:=c.Regs.getD k.toNat default
def trap (c:DCore) (src cause bad:Int):DCore:=⟨c.Regs,c.Vector,c.Root,c.Vector,src,c.User,cause,bad,c.Timer,c.Waits,false,false,c.Stopped⟩
def tick (c:DCore):DCore:=bif decide (c.Timer=0) then c else ⟨c.Regs,c.Pc,c.Root,c.Vector,c.Saved,c.SavedUser,c.Cause,c.Bad,c.Timer - 1,(bif decide (c.Timer - 1=0) then true else c.Waits),c.User,c.On,c.Stopped⟩
def ins (w:Int):DIns:=⟨w / 256,w / 64 % 4,w % 64⟩
def kern (op:Int):Bool:=decide (op=0) || inR 8 14 op
def at_ (c:DCore) (pc:Int):DCore:=⟨c.Regs,pc,c.Root,c.Vector,c.Saved,c.SavedUser,c.Cause,c.Bad,c.Timer,c.Waits,c.User,c.On,c.Stopped⟩
def go (c:DCore):DCore:=at_ c ((c.Pc+1) % 64)
def put (c:DCore) (a w:Int):DCore:=⟨c.Regs.set a.toNat w,c.Pc,c.Root,c.Vector,c.Saved,c.SavedUser,c.Cause,c.Bad,c.Timer,c.Waits,c.User,c.On,c.Stopped⟩
def with_ (b:DBare) (c:DCore):DBare:=⟨c,b.Mem,b.In,b.Out⟩
def root (w:Int):Int:=bif decide (w % 16<8) then w % 16 else -1
def first (xs:List Int):Int:=xs.getD 0 default
def cin (b:DBare) (k:Int):Int:=bif decide (k=1) then b.C.Cause else bif decide (k=2) then b.C.Bad else bif decide (k=3) then b.C.Saved else first b.In
def rest (xs:List Int) (k:Int):List Int:=bif decide (k=0) then xs.drop 1 else xs
def kdo (b:DBare) (i:DIns):DBare :=
 bif decide (i.Op=0) then with_ b ⟨b.C.Regs,b.C.Pc,b.C.Root,b.C.Vector,b.C.Saved,b.C.SavedUser,b.C.Cause,b.C.Bad,b.C.Timer,b.C.Waits,b.C.User,b.C.On,true⟩
 else bif decide (i.Op=8) then with_ b (go ⟨b.C.Regs,b.C.Pc,root (reg b.C i.A),b.C.Vector,b.C.Saved,b.C.SavedUser,b.C.Cause,b.C.Bad,b.C.Timer,b.C.Waits,b.C.User,b.C.On,b.C.Stopped⟩)
 else bif decide (i.Op=9) then with_ b (go ⟨b.C.Regs,b.C.Pc,b.C.Root,reg b.C i.A % 64,b.C.Saved,b.C.SavedUser,b.C.Cause,b.C.Bad,b.C.Timer,b.C.Waits,b.C.User,b.C.On,b.C.Stopped⟩)
 else bif decide (i.Op=10) then with_ b (go ⟨b.C.Regs,b.C.Pc,b.C.Root,b.C.Vector,b.C.Saved,b.C.SavedUser,b.C.Cause,b.C.Bad,reg b.C i.A,b.C.Waits,b.C.User,b.C.On,b.C.Stopped⟩)
 else bif decide (i.Op=11) then with_ b ⟨b.C.Regs,b.C.Saved,b.C.Root,b.C.Vector,b.C.Saved,b.C.SavedUser,b.C.Cause,b.C.Bad,b.C.Timer,b.C.Waits,b.C.SavedUser,true,b.C.Stopped⟩
 else bif decide (i.Op=12) then with_ b (go ⟨b.C.Regs,b.C.Pc,b.C.Root,b.C.Vector,b.C.Saved,b.C.SavedUser,b.C.Cause,b.C.Bad,b.C.Timer,b.C.Waits,b.C.User,decide (i.N % 2=1),b.C.Stopped⟩)
 else bif decide (i.Op=13) then ⟨go b.C,b.Mem,b.In,bif decide (b.Out.length<30) then b.Out ++ [reg b.C i.A] else b.Out⟩
 else ⟨go (put b.C i.A (cin b (i.N % 4))),b.Mem,rest b.In (i.N % 4),b.Out⟩
def plain (c:DCore) (i:DIns):DCore :=
 bif decide (i.Op=1) then go (put c i.A i.N)
 else bif decide (i.Op=2) then go (put c i.A ((reg c i.A+reg c (i.N % 4)) % 4096))
 else bif decide (i.Op=15) then go (put c i.A ((reg c i.A - reg c (i.N % 4)+4096) % 4096))
 else bif decide (i.Op=5) then at_ c i.N
 else bif decide (i.Op=6) then bif decide (reg c i.A=0) then go c else at_ c i.N
 else trap c ((c.Pc+1) % 64) 1 0
def mdo (b:DBare) (i:DIns):DBare :=
 bif decide (walk b.Mem b.C.Root (reg b.C (i.N % 4) % 64) b.C.User (decide (i.Op=4)) = -1) then with_ b (trap b.C b.C.Pc 2 (reg b.C (i.N % 4) % 64))
 else bif decide (i.Op=3) then with_ b (go (put b.C i.A (b.Mem.getD (walk b.Mem b.C.Root (reg b.C (i.N % 4) % 64) b.C.User false).toNat default)))
 else ⟨go b.C,b.Mem.set (walk b.Mem b.C.Root (reg b.C (i.N % 4) % 64) b.C.User true).toNat (reg b.C i.A),b.In,b.Out⟩
def did (b:DBare) (i:DIns):DBare :=
 bif kern i.Op then bif b.C.User then with_ b (trap b.C b.C.Pc 3 0) else kdo b i
 else bif decide (i.Op=3) || decide (i.Op=4) then mdo b i else with_ b (plain b.C i)
def quiet (c:DCore):DCore:=⟨c.Regs,c.Pc,c.Root,c.Vector,c.Saved,c.SavedUser,c.Cause,c.Bad,c.Timer,false,c.User,c.On,c.Stopped⟩
def step (b:DBare):DBare :=
 bif b.C.Stopped then b
 else bif (tick b.C).Waits && (tick b.C).On then with_ b (trap (quiet (tick b.C)) (tick b.C).Pc 4 0)
 else bif decide (walk b.Mem (tick b.C).Root (tick b.C).Pc (tick b.C).User false = -1) then with_ b (trap (tick b.C) (tick b.C).Pc 2 (tick b.C).Pc)
 else did (with_ b (tick b.C)) (ins (b.Mem.getD (walk b.Mem (tick b.C).Root (tick b.C).Pc (tick b.C).User false).toNat default))
end M
theorem insOk_i (x:DIns):F_impl_InsOk x=some (M.insOk x):=by
 unfold F_impl_InsOk
 simp only [M.insOk,M.inR]
 rw [show (4:Int)=3+1 from rfl,show (64:Int)=63+1 from rfl,lt_le,lt_le]
 cases decide (0≤x.Op) <;> cases decide (0≤x.A) <;> cases decide (0≤x.N) <;> cases decide (x.Op≤15) <;> cases decide (x.A≤3) <;> cases decide (x.N≤63) <;> rfl
theorem op_cases {k:Int} (h0:0≤k) (h1:k≤15):k=0∨k=1∨k=2∨k=3∨k=4∨k=5∨k=6∨k=7∨k=8∨k=9∨k=10∨k=11∨k=12∨k=13∨k=14∨k=15:=by omega
theorem insKernel_i {x:DIns} (h:M.insOk x=true):F_impl_InsKernel x=some (M.kern x.Op):=by
 unfold F_impl_InsKernel
 rw [insOk_i,h]
 obtain ⟨op,a,n⟩:=x
 simp only [M.insOk,Bool.and_eq_true,M.inR_iff] at h
 rcases op_cases h.1.1.1 h.1.1.2 with e | e | e | e | e | e | e | e | e | e | e | e | e | e | e | e <;> subst e <;> rfl
theorem insKernel_s {x:DIns} (h:M.insOk x=true):F_spec_InsKernel x=some (M.kern x.Op):=by
 unfold F_spec_InsKernel
 rw [insOk_s,h,l1In_s]
 simp only [Option.bind_some,cond_true,M.kern]
 cases decide (x.Op=0) <;> rfl
theorem insFrom_i {w:Int} (h0:0≤w) (h1:w≤4095):F_impl_InsFrom w=some (M.ins w):=by
 unfold F_impl_InsFrom
 rw [wordOk_i,show M.wordOk w=true from M.inR_iff.2 ⟨h0,h1⟩]
 simp only [Option.bind_some,Bool.not_true,cond_false]
 rw [(div_in h0 h1 (k:=256) (by omega)).1,(div_in h0 h1 (k:=64) (by omega)).1,Int.tmod_eq_emod_of_nonneg (div_in h0 h1 (k:=64) (by omega)).2,Int.tmod_eq_emod_of_nonneg h0]
 rfl
theorem insFrom_s {w:Int} (h0:0≤w) (h1:w≤4095):F_spec_InsFrom w=some (M.ins w):=by
 unfold F_spec_InsFrom
 rw [wordOk_s,show M.wordOk w=true from M.inR_iff.2 ⟨h0,h1⟩]
 simp only [Option.bind_some,Bool.not_true,cond_false]
 rw [(div_in h0 h1 (k:=256) (by omega)).1,(div_in h0 h1 (k:=64) (by omega)).1,Int.tmod_eq_emod_of_nonneg (div_in h0 h1 (k:=64) (by omega)).2,Int.tmod_eq_emod_of_nonneg h0]
 rfl
theorem ins_ok {w:Int} (h0:0≤w) (h1:w≤4095):M.insOk (M.ins w)=true:=by
 simp only [M.insOk,M.ins,Bool.and_eq_true,M.inR_iff]; omega
structure BOk (b : DBare) : Prop where
 regs:b.C.Regs.length=4
 words:M.wordsOk b.C.Regs=true
 pc:0≤b.C.Pc∧b.C.Pc≤63
 vec:0≤b.C.Vector∧b.C.Vector≤63
 sav:0≤b.C.Saved∧b.C.Saved≤63
 bad:0≤b.C.Bad∧b.C.Bad≤63
 root:-1≤b.C.Root∧b.C.Root≤7
 cause:0≤b.C.Cause∧b.C.Cause≤4
 timer:0≤b.C.Timer∧b.C.Timer≤4095
 mem:M.memOk b.Mem=true
 inn:b.In.length≤30
 inw:M.wordsOk b.In=true
 out:b.Out.length≤30
 outw:M.wordsOk b.Out=true
theorem bOk_iff {b:DBare}:M.bareOk b=true↔BOk b:=by
 simp only [M.bareOk,M.coreOk,M.rowOk,M.wordOk,Bool.and_eq_true,decide_eq_true_eq,M.inR_iff]
 constructor
 · rintro ⟨⟨⟨⟨⟨⟨⟨⟨a1,a2⟩,⟨⟨a3,a4⟩,a5⟩,a6⟩,a7⟩,a8⟩,a9⟩,a10⟩,a11,a12⟩,a13,a14⟩
   exact ⟨a1,a2,a3,a4,a5,a6,a7,a8,a9,a10,a11,a12,a13,a14⟩
 · rintro ⟨a1,a2,a3,a4,a5,a6,a7,a8,a9,a10,a11,a12,a13,a14⟩
   exact ⟨⟨⟨⟨⟨⟨⟨⟨a1,a2⟩,⟨⟨a3,a4⟩,a5⟩,a6⟩,a7⟩,a8⟩,a9⟩,a10⟩,a11,a12⟩,a13,a14⟩
theorem BOk.len {b:DBare} (h:BOk b):b.Mem.length=64:=memOk_len h.mem
theorem BOk.reg {b:DBare} (h:BOk b) {k:Int} (h0:0≤k) (h1:k<4):0≤M.reg b.C k∧M.reg b.C k≤4095:=wordsOk_get h.words (by have:=h.regs; omega)
structure KOk (b : DBare) : Prop where
 regs:b.C.Regs.length=4
 words:M.wordsOk b.C.Regs=true
 pc:0≤b.C.Pc∧b.C.Pc≤63
 vec:0≤b.C.Vector∧b.C.Vector≤63
 sav:0≤b.C.Saved∧b.C.Saved≤63
 bad:0≤b.C.Bad∧b.C.Bad≤63
 root:-1≤b.C.Root∧b.C.Root≤7
 cause:0≤b.C.Cause∧b.C.Cause≤4
 timer:0≤b.C.Timer∧b.C.Timer≤4095
 inn:b.In.length≤30
 inw:M.wordsOk b.In=true
 out:b.Out.length≤30
 outw:M.wordsOk b.Out=true
theorem BOk.k {b:DBare} (h:BOk b):KOk b:=⟨h.regs,h.words,h.pc,h.vec,h.sav,h.bad,h.root,h.cause,h.timer,h.inn,h.inw,h.out,h.outw⟩
theorem KOk.reg {b:DBare} (h:KOk b) {k:Int} (h0:0≤k) (h1:k<4):0≤M.reg b.C k∧M.reg b.C k≤4095:=wordsOk_get h.words (by have:=h.regs; omega)
theorem KOk.to {b b':DBare} (h:KOk b) (h1:b'.C=b.C) (h2:b'.In=b.In) (h3:b'.Out=b.Out):KOk b':=by
 obtain ⟨c,m,i,o⟩:=b'
 simp only at h1 h2 h3
 subst h1 h2 h3
 exact ⟨h.regs,h.words,h.pc,h.vec,h.sav,h.bad,h.root,h.cause,h.timer,h.inn,h.inw,h.out,h.outw⟩
section
variable {b : DBare} {op a n : Int}
theorem KOk.gA (hb:KOk b) (h0:0≤a) (h1:a≤3):0≤a∧a<((b.C.Regs.length:Nat):Int):=by have:=hb.regs; omega
theorem tmod4 (h0:0≤n):Int.tmod n 4=n % 4:=Int.tmod_eq_emod_of_nonneg h0
theorem addressOf_i (hb:KOk b) (h0:0≤n):F_impl_addressOf b.C ⟨op,a,n⟩=some (M.reg b.C (n % 4) % 64):=by
 unfold F_impl_addressOf
 simp only [tmod4 h0]
 rw [grd_t (hb.gA (by omega) (by omega)),show b.C.Regs.getD (n % 4).toNat default=M.reg b.C (n % 4) from rfl,Int.tmod_eq_emod_of_nonneg (hb.reg (by omega) (by omega)).1]
end
theorem ticked_i {c:DCore} (h0:0≤c.Timer) (h1:c.Timer≤4095):F_impl_ticked c=some (M.tick c):=by
 unfold F_impl_ticked M.tick F_impl_ticked_j1
 rw [w64_in (z:=c.Timer - 1) (by omega) (by omega)]
 cases decide (c.Timer=0) <;> cases decide (c.Timer - 1=0) <;> rfl
theorem ticked_s {c:DCore} (h0:0≤c.Timer) (h1:c.Timer≤4095):F_spec_l3Ticked c=some (bif (M.tick c).Waits && (M.tick c).On then (M.trap (M.quiet (M.tick c)) (M.tick c).Pc 4 0,true) else (M.tick c,false)):=by
 unfold F_spec_l3Ticked F_spec_l3Ticked_j1 F_spec_l3Ticked_j2
 obtain ⟨r,pc,ro,v,s,su,ca,ba,t,w,u,o,st⟩:=c
 simp only at h0 h1
 rw [w64_in (z:=t - 1) (by omega) (by omega)]
 by_cases e:t=0
 · subst e
   simp only [M.tick,decide_true,cond_true,Int.lt_irrefl,decide_false,cond_false,Option.bind_some,JO.run]
   cases w <;> cases o <;> rfl
 · simp only [M.tick,decide_eq_false e,decide_eq_true (show 0<t by omega),cond_true,cond_false]
   by_cases e1:t - 1=0
   · simp only [decide_eq_true e1,cond_true,Option.bind_some,JO.run]
     cases o <;> rfl
   · simp only [decide_eq_false e1,cond_false,Option.bind_some,JO.run]
     cases w <;> cases o <;> rfl
theorem isInterrupted_i (c:DCore):F_impl_isInterrupted c=some (c.Waits && c.On):=by
 unfold F_impl_isInterrupted
 cases c.Waits <;> rfl
end Go.Proofs.Ytbanbjdcgdmkaaa
namespace Go.Proofs.Ytbanbjdcgdmkaaa
set_option linter.all false
theorem changed_i {xs:List Int} {a w:Int} (h:xs.length≤1048576) (h0:0≤a) (h1:a<(xs.length:Int)):F_impl_changed xs a w=some (xs.set a.toNat w):=by
 unfold F_impl_changed
 rw [copied_eq h,Option.bind_some,grd_t ⟨h0,h1⟩]
theorem nextPlace_i {pc:Int} (h0:0≤pc) (h1:pc≤63):F_impl_nextPlace pc=some ((pc+1) % 64):=by
 unfold F_impl_nextPlace
 rw [w64_in (by omega) (by omega),Int.tmod_eq_emod_of_nonneg (by omega)]
theorem wentOn_i {b:DBare} (h0:0≤b.C.Pc) (h1:b.C.Pc≤63):F_impl_wentOn b=some (M.with_ b (M.go b.C)):=by
 unfold F_impl_wentOn
 rw [nextPlace_i h0 h1]; rfl
section
variable {b : DBare} {op a n : Int}
theorem wo_i (hb:KOk b) (rs ro v ti on m i ou):F_impl_wentOn ⟨⟨rs,b.C.Pc,ro,v,b.C.Saved,b.C.SavedUser,b.C.Cause,b.C.Bad,ti,b.C.Waits,b.C.User,on,b.C.Stopped⟩,m,i,ou⟩=some ⟨⟨rs,(b.C.Pc+1) % 64,ro,v,b.C.Saved,b.C.SavedUser,b.C.Cause,b.C.Bad,ti,b.C.Waits,b.C.User,on,b.C.Stopped⟩,m,i,ou⟩ :=
 wentOn_i (b:=⟨⟨rs,b.C.Pc,ro,v,b.C.Saved,b.C.SavedUser,b.C.Cause,b.C.Bad,ti,b.C.Waits,b.C.User,on,b.C.Stopped⟩,m,i,ou⟩) hb.pc.1 hb.pc.2
theorem wm_i (hb:KOk b) (m):F_impl_wentOn ⟨b.C,m,b.In,b.Out⟩=some ⟨M.go b.C,m,b.In,b.Out⟩:=wentOn_i (b:=⟨b.C,m,b.In,b.Out⟩) hb.pc.1 hb.pc.2
theorem comesIn_i {k:Int} (h0:0≤k) (h1:k<4):F_impl_comesIn b k=some (M.cin b k):=by
 unfold F_impl_comesIn M.cin
 by_cases e1:k=1
 · rw [decide_eq_true e1]; rfl
 by_cases e2:k=2
 · rw [decide_eq_false e1,decide_eq_true e2]; rfl
 by_cases e3:k=3
 · rw [decide_eq_false e1,decide_eq_false e2,decide_eq_true e3]; rfl
 rw [decide_eq_false e1,decide_eq_false e2,decide_eq_false e3]
 simp only [cond_false]
 cases hi:b.In with
 | nil=>rfl
 | cons x xs=>rw [decide_eq_false (by simp only [List.length_cons]; omega),cond_false,grd_t ⟨by omega,by simp only [List.length_cons]; omega⟩]; rfl
theorem rest_eq {xs:List Int}:List.take (Int.toNat ((List.length xs:Nat):Int) - Int.toNat (1:Int)) (List.drop (Int.toNat (1:Int)) xs)=xs.drop 1:=by
 rw [show Int.toNat (1:Int)=1 from rfl]
 exact List.take_of_length_le (by simp)
theorem tookIn_i (hb:KOk b) (a0:0≤a) (a1:a≤3) (n0:0≤n):F_impl_tookIn b ⟨op,a,n⟩=some ⟨M.put b.C a (M.cin b (n % 4)),b.Mem,M.rest b.In (n % 4),b.Out⟩:=by
 unfold F_impl_tookIn
 simp only [tmod4 n0]
 rw [comesIn_i (by omega) (by omega),Option.bind_some,changed_i (by have:=hb.regs; omega) a0 (hb.gA a0 a1).2,Option.bind_some,rest_eq]
 simp only [M.rest]
 by_cases h:n % 4=0
 · rw [decide_eq_true h]
   cases hi:b.In with
   | nil=>rfl
   | cons x xs=>rw [decide_eq_true (by simp only [List.length_cons]; omega),cond_true,cond_true,grd_t ⟨by omega,by simp only [List.length_cons]; omega,by omega⟩]; rfl
 · rw [decide_eq_false h]; rfl
theorem wentOut_i {xs:List Int} {w:Int} (h:xs.length≤30):F_impl_wentOut xs w=some (bif decide (xs.length<30) then xs ++ [w] else xs):=by
 unfold F_impl_wentOut
 by_cases e:xs.length<30
 · rw [decide_eq_false (show ¬ (30:Int)≤((xs.length:Nat):Int) by omega),decide_eq_true e,cond_false,copied_eq (by omega),Option.bind_some,grd_t ⟨by simp only [List.length_cons,List.length_nil]; omega,by simp only [List.length_cons,List.length_nil]; omega⟩]; rfl
 · rw [decide_eq_true (show (30:Int)≤((xs.length:Nat):Int) by omega),decide_eq_false e]; rfl
theorem rootFrom_i {w:Int} (h:0≤w):F_impl_rootFrom w=some (M.root w):=by
 unfold F_impl_rootFrom
 rw [Int.tmod_eq_emod_of_nonneg h,pageOk_i]
 simp only [Option.bind_some,M.root,M.inR]
 by_cases e:w % 16<8
 · rw [decide_eq_true e,decide_eq_true (show 0≤w % 16 by omega),decide_eq_true (show w % 16≤7 by omega)]; rfl
 · rw [decide_eq_false e,decide_eq_false (show ¬ w % 16≤7 by omega),Bool.and_false]; rfl
theorem didKernel_i (hb:KOk b) (o0:0≤op) (o1:op≤15) (a0:0≤a) (a1:a≤3) (n0:0≤n) (hk:M.kern op=true):F_impl_didKernel b ⟨op,a,n⟩=some (M.kdo b ⟨op,a,n⟩):=by
 have g1:=hb.reg a0 (by omega)
 unfold F_impl_didKernel
 rw [grd_t (hb.gA a0 a1)]
 simp only [show b.C.Regs.getD a.toNat default=M.reg b.C a from rfl]
 rcases op_cases o0 o1 with e | e | e | e | e | e | e | e | e | e | e | e | e | e | e | e <;> subst e <;> first | (exact absurd hk (by decide)) | simp only [Int.reduceEq,decide_true,decide_false,cond_true,cond_false,Option.bind_some,JO.run,F_impl_didKernel_j1,M.kdo]
 · rfl
 · rw [rootFrom_i g1.1]
   simp only [Option.bind_some,JO.run,F_impl_didKernel_j1]
   rw [wo_i hb]; rfl
 · simp only [Int.tmod_eq_emod_of_nonneg g1.1]
   rw [wo_i hb]; rfl
 · rw [wo_i hb]; rfl
 · rfl
 · simp only [Int.tmod_eq_emod_of_nonneg n0]
   rw [wo_i hb]; rfl
 · rw [wentOut_i hb.out]
   simp only [Option.bind_some,JO.run,F_impl_didKernel_j1]
   rw [wo_i hb]; rfl
 · rw [tookIn_i hb a0 a1 n0]
   simp only [Option.bind_some,JO.run,F_impl_didKernel_j1,M.put]
   rw [wo_i hb]; rfl
theorem kernel_s (hb:KOk b) (o0:0≤op) (o1:op≤15) (a0:0≤a) (a1:a≤3) (n0:0≤n) (hk:M.kern op=true):F_spec_l3Kernel b.C b.In b.Out ⟨op,a,n⟩=some ((M.kdo b ⟨op,a,n⟩).C,(M.kdo b ⟨op,a,n⟩).In,(M.kdo b ⟨op,a,n⟩).Out):=by
 have g1:=hb.reg a0 (by omega)
 have hp:=hb.pc
 have ho:=hb.out
 unfold F_spec_l3Kernel F_spec_l3Kernel_j2
 rw [w64_in (z:=b.C.Pc+1) (by omega) (by omega),Int.tmod_eq_emod_of_nonneg (a:=b.C.Pc+1) (by omega)]
 simp only [tmod4 n0,show b.C.Regs.getD a.toNat default=M.reg b.C a from rfl,rest_eq,Int.tmod_eq_emod_of_nonneg g1.1,Int.tmod_eq_emod_of_nonneg n0]
 simp only [grd_t (hb.gA a0 a1)]
 rcases op_cases o0 o1 with e | e | e | e | e | e | e | e | e | e | e | e | e | e | e | e <;> subst e <;> first | (exact absurd hk (by decide)) | simp only [Int.reduceEq,decide_true,decide_false,cond_true,cond_false,Option.bind_some,JO.run,F_spec_l3Kernel_j1,M.kdo]
 · rfl
 · simp only [M.root]
   cases decide (M.reg b.C a % 16<8) <;> rfl
 · rfl
 · rfl
 · rfl
 · rfl
 · by_cases e:b.Out.length<30
   · rw [decide_eq_true (show ((b.Out.length:Nat):Int)<30 by omega),decide_eq_true e,cond_true,grd_t ⟨by simp only [List.length_cons,List.length_nil]; omega,by simp only [List.length_cons,List.length_nil]; omega⟩]; rfl
   · rw [decide_eq_false (show ¬ ((b.Out.length:Nat):Int)<30 by omega),decide_eq_false e]; rfl
 · rw [grd_t ⟨by omega,by omega⟩]
   simp only [M.cin,M.rest]
   by_cases h:n % 4=0
   · rw [h]
     simp only [decide_true,cond_true,Int.reduceEq,decide_false,cond_false]
     cases hi:b.In with
     | nil=>rfl
     | cons x xs=>rw [decide_eq_true (by simp only [List.length_cons]; omega),cond_true,grd_t ⟨by omega,by simp only [List.length_cons]; omega⟩,grd_t ⟨by omega,by simp only [List.length_cons]; omega,by omega⟩]; rfl
   · rw [decide_eq_false h]
     simp only [cond_false,Option.bind_some,JO.run]
     rcases (show n % 4=1∨n % 4=2∨n % 4=3 by omega) with e | e | e <;> rw [e] <;> rfl
end
end Go.Proofs.Ytbanbjdcgdmkaaa
namespace Go.Proofs.Ytbanbjdcgdmkaaa
set_option linter.all false
section
variable {b : DBare} {op a n : Int}
theorem jumped_i (hb:KOk b) (a0:0≤a) (a1:a≤3) (ho:op=5∨op=6):F_impl_jumped b ⟨op,a,n⟩=some (M.with_ b (M.plain b.C ⟨op,a,n⟩)):=by
 unfold F_impl_jumped
 rcases ho with rfl | rfl
 · rfl
 · simp only [decide_true,cond_true]
   rw [grd_t (hb.gA a0 a1),show b.C.Regs.getD a.toNat default=M.reg b.C a from rfl]
   by_cases h:M.reg b.C a=0
   · rw [decide_eq_true h,wentOn_i hb.pc.1 hb.pc.2]
     simp only [M.plain,decide_eq_true h]; rfl
   · simp only [M.plain,decide_eq_false h]; rfl
theorem counted_i (hb:KOk b) (a0:0≤a) (a1:a≤3) (n0:0≤n):F_impl_counted b.C.Regs ⟨op,a,n⟩=some (bif decide (op=2) then (M.reg b.C a+M.reg b.C (n % 4)) % 4096 else bif decide (op=15) then (M.reg b.C a - M.reg b.C (n % 4)+4096) % 4096 else n):=by
 unfold F_impl_counted
 have g1:=hb.reg a0 (by omega)
 have g2:=hb.reg (k:=n % 4) (by omega) (by omega)
 simp only [tmod4 n0]
 rw [grd_t (hb.gA (by omega) (by omega)),grd_t (hb.gA a0 a1),grd_t (hb.gA a0 a1),show b.C.Regs.getD a.toNat default=M.reg b.C a from rfl,show b.C.Regs.getD (n % 4).toNat default=M.reg b.C (n % 4) from rfl,
  w64_in (z:=M.reg b.C a+M.reg b.C (n % 4)) (by omega) (by omega),w64_in (z:=M.reg b.C a - M.reg b.C (n % 4)) (by omega) (by omega),w64_in (z:=M.reg b.C a - M.reg b.C (n % 4)+4096) (by omega) (by omega),Int.tmod_eq_emod_of_nonneg (by omega),Int.tmod_eq_emod_of_nonneg (by omega)]
 cases decide (op=2) <;> cases decide (op=15) <;> rfl
theorem withRegister_i (hb:KOk b) (a0:0≤a) (a1:a≤3) (w:Int):F_impl_withRegister b a w=some (M.with_ b (M.go (M.put b.C a w))):=by
 unfold F_impl_withRegister
 rw [changed_i (by have:=hb.regs; omega) a0 (hb.gA a0 a1).2]
 simp only [Option.bind_some]
 rw [wo_i hb]; rfl
theorem didOpen_i (hb:KOk b) (o0:0≤op) (o1:op≤15) (a0:0≤a) (a1:a≤3) (n0:0≤n) (hk:M.kern op=false) (h3:op≠3) (h4:op≠4):F_impl_didOpen b ⟨op,a,n⟩=some (M.with_ b (M.plain b.C ⟨op,a,n⟩)):=by
 unfold F_impl_didOpen
 rcases op_cases o0 o1 with e | e | e | e | e | e | e | e | e | e | e | e | e | e | e | e <;> subst e <;> first | (exact absurd hk (by decide)) | (exact absurd rfl h3) | (exact absurd rfl h4) | simp only [Int.reduceEq,decide_true,decide_false,cond_true,cond_false,Option.bind_some,JO.run,F_impl_didOpen_j3]
 · rw [counted_i hb a0 a1 n0,Option.bind_some,withRegister_i hb a0 a1]; rfl
 · rw [counted_i hb a0 a1 n0,Option.bind_some,withRegister_i hb a0 a1]; rfl
 · rw [jumped_i hb a0 a1 (.inl rfl)]; rfl
 · rw [jumped_i hb a0 a1 (.inr rfl)]; rfl
 · rw [nextPlace_i hb.pc.1 hb.pc.2]; rfl
 · rw [counted_i hb a0 a1 n0,Option.bind_some,withRegister_i hb a0 a1]; rfl
theorem didInCore_i (hb:KOk b) {i:DIns} (hi:M.insOk i=true) (h3:i.Op≠3) (h4:i.Op≠4):F_impl_didInCore b i=some (M.did b i):=by
 unfold F_impl_didInCore
 rw [insKernel_i hi,Option.bind_some]
 unfold M.did
 rw [decide_eq_false h3,decide_eq_false h4]
 obtain ⟨op,a,n⟩:=i
 simp only [M.insOk,Bool.and_eq_true,M.inR_iff] at hi
 obtain ⟨⟨⟨o0,o1⟩,a0,a1⟩,n0,n1⟩:=hi
 cases hk:M.kern op with
 | false=>simp only [Bool.not_false,cond_true]; rw [didOpen_i hb o0 o1 a0 a1 n0 hk h3 h4]; rfl
 | true =>
  simp only [Bool.not_true,cond_false,cond_true]
  cases b.C.User with
  | true=>rfl
  | false=>simp only [cond_false]; rw [didKernel_i hb o0 o1 a0 a1 n0 hk]; rfl
end
end Go.Proofs.Ytbanbjdcgdmkaaa
namespace Go.Proofs.Ytbanbjdcgdmkaaa
set_option linter.all false
namespace M
def zeroC:DCore:=⟨[],0,0,0,0,false,0,0,0,false,false,false,false⟩
def zero:DBare:=⟨zeroC,[],[],[]⟩
def bareStep (b:DBare):DBare:=bif bareOk b then step b else zero
end M
section
variable {b : DBare} {op a n : Int}
theorem BOk.tick (hb:BOk b):BOk (M.with_ b (M.tick b.C)):=by
 have ht:=hb.timer
 unfold M.tick
 by_cases e:b.C.Timer=0
 · rw [decide_eq_true e]; exact ⟨hb.regs,hb.words,hb.pc,hb.vec,hb.sav,hb.bad,hb.root,hb.cause,hb.timer,hb.mem,hb.inn,hb.inw,hb.out,hb.outw⟩
 · rw [decide_eq_false e]; exact ⟨hb.regs,hb.words,hb.pc,hb.vec,hb.sav,hb.bad,hb.root,hb.cause,⟨by show 0≤b.C.Timer - 1; omega,by show b.C.Timer - 1≤4095; omega⟩,hb.mem,hb.inn,hb.inw,hb.out,hb.outw⟩
theorem mem_word (hb:BOk b) {z:Int} (h0:0≤z) (h1:z<64):0≤b.Mem.getD z.toNat default∧b.Mem.getD z.toNat default≤4095:=wordsOk_get (memOk_words hb.mem) (by have:=hb.len; omega)
theorem walk_neg (mem:List Int) (root addr:Int) (user write:Bool):decide (M.walk mem root addr user write<0)=decide (M.walk mem root addr user write = -1):=by
 by_cases h:M.walk mem root addr user write = -1
 · rw [decide_eq_true h,decide_eq_true (by omega)]
 · have:=walk_lt _ _ _ _ _ h
   rw [decide_eq_false h,decide_eq_false (by omega)]
theorem kdo_mem (b:DBare) (i:DIns):(M.kdo b i).Mem=b.Mem:=by
 unfold M.kdo
 cases decide (i.Op=0) <;> cases decide (i.Op=8) <;> cases decide (i.Op=9) <;> cases decide (i.Op=10) <;> cases decide (i.Op=11) <;> cases decide (i.Op=12) <;> cases decide (i.Op=13) <;> rfl
theorem BOk.trap (hb:BOk b) {src cause bad:Int} (h1:0≤src∧src≤63) (h2:0≤cause∧cause≤4) (h3:0≤bad∧bad≤63):BOk (M.with_ b (M.trap b.C src cause bad)) :=
 ⟨hb.regs,hb.words,hb.vec,hb.vec,h1,h3,hb.root,h2,hb.timer,hb.mem,hb.inn,hb.inw,hb.out,hb.outw⟩
theorem BOk.at_ (hb:BOk b) {pc:Int} (h:0≤pc∧pc≤63):BOk (M.with_ b (M.at_ b.C pc)) :=
 ⟨hb.regs,hb.words,h,hb.vec,hb.sav,hb.bad,hb.root,hb.cause,hb.timer,hb.mem,hb.inn,hb.inw,hb.out,hb.outw⟩
theorem BOk.go (hb:BOk b):BOk (M.with_ b (M.go b.C)):=hb.at_ (by omega)
theorem BOk.put (hb:BOk b) {w:Int} (h:0≤w∧w≤4095):BOk (M.with_ b (M.put b.C a w)) :=
 ⟨by show (b.C.Regs.set _ _).length=4; rw [List.length_set]; exact hb.regs,wordsOk_set hb.words h.1 h.2,hb.pc,hb.vec,hb.sav,hb.bad,hb.root,hb.cause,hb.timer,hb.mem,hb.inn,hb.inw,hb.out,hb.outw⟩
theorem wordsOk_app {xs:List Int} {w:Int} (h:M.wordsOk xs=true) (hw:0≤w∧w≤4095):M.wordsOk (xs ++ [w])=true:=by
 refine List.all_eq_true.2 fun x hx=>?_
 rcases List.mem_append.1 hx with h1 | h1
 · exact List.all_eq_true.1 h x h1
 · rw [List.mem_singleton.1 h1]; exact M.inR_iff.2 hw
theorem wordsOk_drop {xs:List Int} (h:M.wordsOk xs=true):M.wordsOk (xs.drop 1)=true:=List.all_eq_true.2 fun x hx=>List.all_eq_true.1 h x (List.mem_of_mem_drop hx)
theorem first_ok {xs:List Int} (h:M.wordsOk xs=true):0≤M.first xs∧M.first xs≤4095:=by
 cases xs with
 | nil=>exact ⟨by decide,by decide⟩
 | cons x xs=>exact M.inR_iff.1 (List.all_eq_true.1 h x (List.mem_cons_self ..))
theorem cin_ok (hb:BOk b) {k:Int}:0≤M.cin b k∧M.cin b k≤4095:=by
 have h1:=hb.cause; have h2:=hb.bad; have h3:=hb.sav; have h4:=first_ok hb.inw
 unfold M.cin
 cases decide (k=1) <;> cases decide (k=2) <;> cases decide (k=3) <;> simp only [cond_true,cond_false] <;> omega
theorem kdo_ok (hb:BOk b) (a0:0≤a) (a1:a≤3):BOk (M.kdo b ⟨op,a,n⟩):=by
 have g:=hb.reg a0 (by omega)
 unfold M.kdo
 simp only
 cases decide (op=0) with
 | true=>exact ⟨hb.regs,hb.words,hb.pc,hb.vec,hb.sav,hb.bad,hb.root,hb.cause,hb.timer,hb.mem,hb.inn,hb.inw,hb.out,hb.outw⟩
 | false =>
 cases decide (op=8) with
 | true =>
  have hr:-1≤M.root (M.reg b.C a)∧M.root (M.reg b.C a)≤7:=by
   unfold M.root
   by_cases e:M.reg b.C a % 16<8
   · rw [decide_eq_true e,cond_true]; omega
   · rw [decide_eq_false e,cond_false]; omega
  exact BOk.go (b:=M.with_ b ⟨b.C.Regs,b.C.Pc,M.root (M.reg b.C a),b.C.Vector,b.C.Saved,b.C.SavedUser,b.C.Cause,b.C.Bad,b.C.Timer,b.C.Waits,b.C.User,b.C.On,b.C.Stopped⟩) ⟨hb.regs,hb.words,hb.pc,hb.vec,hb.sav,hb.bad,hr,hb.cause,hb.timer,hb.mem,hb.inn,hb.inw,hb.out,hb.outw⟩
 | false =>
 cases decide (op=9) with
 | true =>
  exact BOk.go (b:=M.with_ b ⟨b.C.Regs,b.C.Pc,b.C.Root,M.reg b.C a % 64,b.C.Saved,b.C.SavedUser,b.C.Cause,b.C.Bad,b.C.Timer,b.C.Waits,b.C.User,b.C.On,b.C.Stopped⟩) ⟨hb.regs,hb.words,hb.pc,by show 0≤M.reg b.C a % 64∧M.reg b.C a % 64≤63; omega,hb.sav,hb.bad,hb.root,hb.cause,hb.timer,hb.mem,hb.inn,hb.inw,hb.out,hb.outw⟩
 | false =>
 cases decide (op=10) with
 | true =>
  exact BOk.go (b:=M.with_ b ⟨b.C.Regs,b.C.Pc,b.C.Root,b.C.Vector,b.C.Saved,b.C.SavedUser,b.C.Cause,b.C.Bad,M.reg b.C a,b.C.Waits,b.C.User,b.C.On,b.C.Stopped⟩) ⟨hb.regs,hb.words,hb.pc,hb.vec,hb.sav,hb.bad,hb.root,hb.cause,g,hb.mem,hb.inn,hb.inw,hb.out,hb.outw⟩
 | false =>
 cases decide (op=11) with
 | true=>exact ⟨hb.regs,hb.words,hb.sav,hb.vec,hb.sav,hb.bad,hb.root,hb.cause,hb.timer,hb.mem,hb.inn,hb.inw,hb.out,hb.outw⟩
 | false =>
 cases decide (op=12) with
 | true =>
  exact BOk.go (b:=M.with_ b ⟨b.C.Regs,b.C.Pc,b.C.Root,b.C.Vector,b.C.Saved,b.C.SavedUser,b.C.Cause,b.C.Bad,b.C.Timer,b.C.Waits,b.C.User,decide (n % 2=1),b.C.Stopped⟩) ⟨hb.regs,hb.words,hb.pc,hb.vec,hb.sav,hb.bad,hb.root,hb.cause,hb.timer,hb.mem,hb.inn,hb.inw,hb.out,hb.outw⟩
 | false =>
 have h:=hb.go
 cases decide (op=13) with
 | true =>
  simp only [cond_true,cond_false]
  by_cases e:b.Out.length<30
  · rw [decide_eq_true e]
    exact ⟨h.regs,h.words,h.pc,h.vec,h.sav,h.bad,h.root,h.cause,h.timer,h.mem,h.inn,h.inw,by show (b.Out ++ [_]).length≤30; simp only [List.length_append,List.length_cons,List.length_nil]; omega,wordsOk_app hb.outw g⟩
  · rw [decide_eq_false e]; exact h
 | false =>
  simp only [cond_false]
  have h:=(hb.put (a:=a) (cin_ok hb (k:=n % 4))).go
  refine ⟨h.regs,h.words,h.pc,h.vec,h.sav,h.bad,h.root,h.cause,h.timer,h.mem,?_,?_,h.out,h.outw⟩
  · show (M.rest b.In (n % 4)).length≤30
    have:=hb.inn
    unfold M.rest
    cases decide (n % 4=0) <;> simp only [cond_true,cond_false,List.length_drop] <;> omega
  · show M.wordsOk (M.rest b.In (n % 4))=true
    unfold M.rest
    cases decide (n % 4=0)
    · exact hb.inw
    · exact wordsOk_drop hb.inw
theorem plain_ok (hb:BOk b) (a0:0≤a) (a1:a≤3) (n0:0≤n) (n1:n≤63):BOk (M.with_ b (M.plain b.C ⟨op,a,n⟩)):=by
 have hp:=hb.pc
 unfold M.plain
 simp only
 cases decide (op=1) with
 | true=>exact (hb.put (a:=a) (w:=n) (by omega)).go
 | false =>
 cases decide (op=2) with
 | true=>exact (hb.put (a:=a) (w:=(M.reg b.C a+M.reg b.C (n % 4)) % 4096) (by omega)).go
 | false =>
 cases decide (op=15) with
 | true=>exact (hb.put (a:=a) (w:=(M.reg b.C a - M.reg b.C (n % 4)+4096) % 4096) (by omega)).go
 | false =>
 cases decide (op=5) with
 | true=>exact hb.at_ ⟨n0,n1⟩
 | false =>
 cases decide (op=6) with
 | true =>
  cases decide (M.reg b.C a=0) with
  | true=>exact hb.go
  | false=>exact hb.at_ ⟨n0,n1⟩
 | false=>exact hb.trap (src:=(b.C.Pc+1) % 64) (cause:=1) (bad:=0) (by omega) (by omega) (by omega)
theorem mdo_ok (hb:BOk b) (a0:0≤a) (a1:a≤3) (n0:0≤n) (ho:op=3∨op=4):BOk (M.mdo b ⟨op,a,n⟩):=by
 have g:=hb.reg a0 (by omega)
 unfold M.mdo
 simp only
 by_cases h:M.walk b.Mem b.C.Root (M.reg b.C (n % 4) % 64) b.C.User (decide (op=4)) = -1
 · rw [decide_eq_true h]
   exact hb.trap (src:=b.C.Pc) (cause:=2) (bad:=M.reg b.C (n % 4) % 64) hb.pc (by omega) (by omega)
 · have hw:=walk_lt _ _ _ _ _ h
   rw [decide_eq_false h]
   rcases ho with rfl | rfl
   · simp only [Int.reduceEq,decide_false] at hw
     exact (hb.put (a:=a) (mem_word hb hw.1 hw.2)).go
   · have h2:=hb.go
     refine ⟨h2.regs,h2.words,h2.pc,h2.vec,h2.sav,h2.bad,h2.root,h2.cause,h2.timer,?_,h2.inn,h2.inw,h2.out,h2.outw⟩
     show M.memOk (b.Mem.set _ _)=true
     simp only [M.memOk,List.length_set,hb.len,decide_true,Bool.true_and]
     exact wordsOk_set (memOk_words hb.mem) g.1 g.2
theorem did_ok (hb:BOk b) {i:DIns} (hi:M.insOk i=true):BOk (M.did b i):=by
 obtain ⟨op,a,n⟩:=i
 simp only [M.insOk,Bool.and_eq_true,M.inR_iff] at hi
 obtain ⟨⟨⟨o0,o1⟩,a0,a1⟩,n0,n1⟩:=hi
 unfold M.did
 simp only
 cases M.kern op with
 | true =>
  cases b.C.User with
  | true=>exact hb.trap (src:=b.C.Pc) (cause:=3) (bad:=0) hb.pc (by omega) (by omega)
  | false=>exact kdo_ok hb a0 a1
 | false =>
  by_cases h3:op=3
  · rw [decide_eq_true h3]; exact mdo_ok hb a0 a1 n0 (.inl h3)
  · by_cases h4:op=4
    · rw [decide_eq_true h4,Bool.or_true]; exact mdo_ok hb a0 a1 n0 (.inr h4)
    · rw [decide_eq_false h3,decide_eq_false h4]; exact plain_ok hb a0 a1 n0 n1
theorem step_ok (hb:BOk b):BOk (M.step b):=by
 have ht:=hb.tick
 unfold M.step
 cases b.C.Stopped with
 | true=>exact hb
 | false =>
 cases (M.tick b.C).Waits && (M.tick b.C).On with
 | true => 
  have hq:BOk (M.with_ b (M.quiet (M.tick b.C))):=⟨ht.regs,ht.words,ht.pc,ht.vec,ht.sav,ht.bad,ht.root,ht.cause,ht.timer,ht.mem,ht.inn,ht.inw,ht.out,ht.outw⟩
  exact hq.trap (src:=(M.tick b.C).Pc) (cause:=4) (bad:=0) ht.pc (by omega) (by omega)
 | false =>
 simp only [cond_false]
 by_cases h:M.walk b.Mem (M.tick b.C).Root (M.tick b.C).Pc (M.tick b.C).User false = -1
 · rw [decide_eq_true h]
   exact ht.trap (src:=(M.tick b.C).Pc) (cause:=2) (bad:=(M.tick b.C).Pc) ht.pc (by omega) ht.pc
 · have hw:=walk_lt _ _ _ _ _ h
   have hm:=mem_word hb hw.1 hw.2
   rw [decide_eq_false h]
   exact did_ok ht (ins_ok hm.1 hm.2)
theorem BOk.small (hb:BOk b):SmallB b:=⟨⟨by have:=hb.regs; omega⟩,by have:=hb.len; omega,by have:=hb.inn; omega,by have:=hb.out; omega⟩
end
theorem zero_small:SmallB M.zero:=⟨⟨by decide⟩,by decide,by decide,by decide⟩
end Go.Proofs.Ytbanbjdcgdmkaaa
namespace Go.Proofs.Ytbanbjdcgdmkaaa
set_option linter.all false
section
variable {b : DBare} {op a n : Int}
theorem loaded_i (hb:BOk b) (a0:0≤a) (a1:a≤3) (n0:0≤n):F_impl_loaded b ⟨3,a,n⟩=some (M.mdo b ⟨3,a,n⟩):=by
 unfold F_impl_loaded M.mdo
 have hl:=hb.len
 rw [addressOf_i hb.k n0]
 simp only [Option.bind_some,walk_i (mem:=b.Mem) (by omega)]
 simp only [decide_true,Int.reduceEq,decide_false]
 by_cases h:M.walk b.Mem b.C.Root (M.reg b.C (n % 4) % 64) b.C.User false = -1
 · rw [decide_eq_true h]; rfl
 · have hw:=walk_lt _ _ _ _ _ h
   rw [decide_eq_false h]
   simp only [cond_false,cond_true]
   rw [grd_t ⟨hw.1,by omega⟩,withRegister_i hb.k a0 a1]; rfl
theorem stored_i (hb:BOk b) (a0:0≤a) (a1:a≤3) (n0:0≤n):F_impl_stored b ⟨4,a,n⟩=some (M.mdo b ⟨4,a,n⟩):=by
 unfold F_impl_stored M.mdo
 have hl:=hb.len
 rw [addressOf_i hb.k n0]
 simp only [Option.bind_some,walk_i (mem:=b.Mem) (by omega)]
 simp only [decide_true,Int.reduceEq,decide_false]
 by_cases h:M.walk b.Mem b.C.Root (M.reg b.C (n % 4) % 64) b.C.User true = -1
 · rw [decide_eq_true h]; rfl
 · have hw:=walk_lt _ _ _ _ _ h
   rw [decide_eq_false h]
   simp only [cond_false]
   rw [grd_t (hb.k.gA a0 a1),changed_i (by omega) hw.1 (by omega)]
   simp only [Option.bind_some]
   rw [wm_i hb.k]; rfl
theorem did_i (hb:BOk b) {i:DIns} (hi:M.insOk i=true):F_impl_did b i=some (M.did b i):=by
 unfold F_impl_did
 have hi2:=hi
 obtain ⟨op,a,n⟩:=i
 simp only [M.insOk,Bool.and_eq_true,M.inR_iff] at hi2
 obtain ⟨⟨⟨o0,o1⟩,a0,a1⟩,n0,n1⟩:=hi2
 by_cases h3:op=3
 · subst h3
   rw [loaded_i hb a0 a1 n0]; rfl
 · by_cases h4:op=4
   · subst h4
     rw [stored_i hb a0 a1 n0]; rfl
   · simp only [decide_eq_false h3,decide_eq_false h4,cond_false,Option.bind_some,JO.run]
     rw [didInCore_i hb.k hi h3 h4]; rfl
theorem stepped_i (hb:BOk b):F_impl_stepped b=some (M.step b):=by
 have hl:=hb.len
 have ht:=hb.tick
 unfold F_impl_stepped M.step
 cases hs:b.C.Stopped with
 | true=>rfl
 | false =>
  simp only [cond_false,ticked_i hb.timer.1 hb.timer.2,Option.bind_some,isInterrupted_i]
  cases (M.tick b.C).Waits && (M.tick b.C).On with
  | true=>rfl
  | false =>
   simp only [cond_false]
   rw [walk_i (by omega),Option.bind_some]
   by_cases h:M.walk b.Mem (M.tick b.C).Root (M.tick b.C).Pc (M.tick b.C).User false = -1
   · rw [decide_eq_true h]; rfl
   · have hw:=walk_lt _ _ _ _ _ h
     have hm:=mem_word hb hw.1 hw.2
     rw [decide_eq_false h,cond_false,cond_false,grd_t ⟨hw.1,by omega⟩,insFrom_i hm.1 hm.2,Option.bind_some]
     show Option.bind (F_impl_did (M.with_ b (M.tick b.C)) _) _=_
     rw [did_i ht (ins_ok hm.1 hm.2)]; rfl
theorem copiedBare_i {b:DBare} (h:SmallB b):F_impl_copiedBare b=some b:=by
 unfold F_impl_copiedBare
 rw [copied_eq h.c.regs,copied_eq h.mem,copied_eq h.i,copied_eq h.o]; rfl
theorem bareStep_i {b:DBare} (h:SmallB b):F_impl_BareStep b=some (M.bareStep b):=by
 unfold F_impl_BareStep M.bareStep
 rw [bareOk_i h,Option.bind_some]
 cases hok:M.bareOk b with
 | false=>rfl
 | true =>
  have hb:=bOk_iff.1 hok
  simp only [Bool.not_true,cond_false,cond_true]
  rw [stepped_i hb,Option.bind_some,copiedBare_i (step_ok hb).small]; rfl
end
end Go.Proofs.Ytbanbjdcgdmkaaa
namespace Go.Proofs.Ytbanbjdcgdmkaaa
set_option linter.all false
section
variable {b : DBare} {op a n : Int}
theorem trap_s (c:DCore) (src cause bad:Int):F_spec_l3Trap c src cause bad=some (M.trap c src cause bad):=rfl
theorem plain_s (hb:KOk b) (o0:0≤op) (o1:op≤15) (a0:0≤a) (a1:a≤3) (n0:0≤n) (hk:M.kern op=false) (h3:¬ op=3) (h4:¬ op=4):F_spec_l3Plain b.C ⟨op,a,n⟩=some (M.plain b.C ⟨op,a,n⟩):=by
 have g1:=hb.reg a0 (by omega)
 have g2:=hb.reg (k:=n % 4) (by omega) (by omega)
 have hp:=hb.pc
 unfold F_spec_l3Plain
 rw [w64_in (z:=b.C.Pc+1) (by omega) (by omega),Int.tmod_eq_emod_of_nonneg (a:=b.C.Pc+1) (by omega)]
 simp only [tmod4 n0,show b.C.Regs.getD a.toNat default=M.reg b.C a from rfl,show b.C.Regs.getD (n % 4).toNat default=M.reg b.C (n % 4) from rfl]
 simp only [grd_t (hb.gA a0 a1),grd_t (hb.gA (a:=n % 4) (by omega) (by omega))]
 rw [w64_in (z:=M.reg b.C a+M.reg b.C (n % 4)) (by omega) (by omega),w64_in (z:=M.reg b.C a+4096) (by omega) (by omega),w64_in (z:=M.reg b.C a+4096 - M.reg b.C (n % 4)) (by omega) (by omega),Int.tmod_eq_emod_of_nonneg (a:=M.reg b.C a+M.reg b.C (n % 4)) (by omega),Int.tmod_eq_emod_of_nonneg (a:=M.reg b.C a+4096 - M.reg b.C (n % 4)) (by omega),show M.reg b.C a+4096 - M.reg b.C (n % 4)=M.reg b.C a - M.reg b.C (n % 4)+4096 by omega]
 rcases op_cases o0 o1 with e | e | e | e | e | e | e | e | e | e | e | e | e | e | e | e <;> subst e <;> first | (exact absurd hk (by decide)) | (exact absurd rfl h3) | (exact absurd rfl h4) | simp only [Int.reduceEq,decide_true,decide_false,cond_true,cond_false,Option.bind_some,JO.run,F_spec_l3Plain_j1,M.plain,trap_s]
 · rfl
 · rfl
 · rfl
 · cases decide (M.reg b.C a=0) <;> rfl
 · rfl
end
end Go.Proofs.Ytbanbjdcgdmkaaa
namespace Go.Proofs.Ytbanbjdcgdmkaaa
set_option linter.all false
theorem walk_s {mem:List Int} {root addr:Int} {user write:Bool} (hl:mem.length≤9223372036854775806):F_spec_Walk mem root addr user write=some (M.walk mem root addr user write):=by
 unfold F_spec_Walk M.walk
 rw [memOk_s hl,l1In_s,l1In_s]
 cases hm:M.memOk mem with
 | false=>simp only [Option.bind_some,Bool.not_false,cond_true,Bool.false_and,cond_false]
 | true =>
  cases hr:M.inR (-1) 7 root with
  | false=>simp only [Option.bind_some,Bool.not_false,Bool.not_true,cond_true,Bool.false_and,Bool.and_false,cond_false]
  | true =>
   cases ha:M.inR 0 63 addr with
   | false=>simp only [Option.bind_some,Bool.not_false,Bool.not_true,cond_true,Bool.false_and,Bool.and_false,cond_false]
   | true =>
    have hr:=M.inR_iff.1 hr
    have ha:=M.inR_iff.1 ha
    have hlen:=memOk_len hm
    simp only [Option.bind_some,Bool.not_true,cond_true,cond_false,Bool.and_self]
    by_cases h1:root = -1
    · rw [decide_eq_true h1]; rfl
    · have e1:Int.tdiv addr 8=addr / 8:=Int.tdiv_eq_ediv_of_nonneg ha.1
      have e2:Int.tmod addr 8=addr % 8:=Int.tmod_eq_emod_of_nonneg ha.1
      rw [decide_eq_false h1,cond_false,cond_false,e1,w64_in (z:=root*8) (by omega) (by omega),w64_in (z:=addr / 8) (by omega) (by omega),w64_in (z:=root*8+addr / 8) (by omega) (by omega),grd_t ⟨by omega,by omega⟩]
      have hw:=wordsOk_get (memOk_words hm) (i:=(root*8+addr / 8).toNat) (by omega)
      rw [entryFrom_s hw.1 hw.2]
      generalize mem.getD (root*8+addr / 8).toNat default=w
      have hp:=dec_page w
      unfold F_spec_Walk_j5
      simp only [Option.bind_some,e2,M.lets]
      rw [w64_in (z:=(dec w).Page*8) (by omega) (by omega),w64_in (z:=(dec w).Page*8+addr % 8) (by omega) (by omega)]
      generalize (dec w).Page*8+addr % 8=z
      cases (dec w).There <;> cases (dec w).Write <;> cases (dec w).User <;> cases user <;> cases write <;> rfl
end Go.Proofs.Ytbanbjdcgdmkaaa
namespace Go.Proofs.Ytbanbjdcgdmkaaa
set_option linter.all false
section
variable {b : DBare} {op a n : Int}
theorem mdo_s {v2:DBare} {c:DCore} {t:Bool} (hb:BOk (M.with_ v2 c)) (a0:0≤a) (a1:a≤3) (n0:0≤n) (ho:op=3∨op=4) :
 F_spec_BareStep_j10 v2 (c,t) ⟨op,a,n⟩ ()=some (M.mdo (M.with_ v2 c) ⟨op,a,n⟩):=by
 have hl:=hb.len
 have hp:=hb.pc
 have gA:0≤a∧a<((c.Regs.length:Nat):Int):=hb.k.gA a0 a1
 have gN:0≤n % 4∧n % 4<((c.Regs.length:Nat):Int):=hb.k.gA (a:=n % 4) (by omega) (by omega)
 have g2:0≤M.reg c (n % 4)∧M.reg c (n % 4)≤4095:=hb.reg (k:=n % 4) (by omega) (by omega)
 simp only [M.with_] at hl hp
 have e:M.mdo (M.with_ v2 c) ⟨op,a,n⟩=(bif decide (M.walk v2.Mem c.Root (M.reg c (n % 4) % 64) c.User (decide (op=4)) = -1) then ⟨M.trap c c.Pc 2 (M.reg c (n % 4) % 64),v2.Mem,v2.In,v2.Out⟩
  else bif decide (op=3) then ⟨M.go (M.put c a (v2.Mem.getD (M.walk v2.Mem c.Root (M.reg c (n % 4) % 64) c.User false).toNat default)),v2.Mem,v2.In,v2.Out⟩
  else ⟨M.go c,v2.Mem.set (M.walk v2.Mem c.Root (M.reg c (n % 4) % 64) c.User true).toNat (M.reg c a),v2.In,v2.Out⟩):=rfl
 rw [e]
 unfold F_spec_BareStep_j10 F_spec_BareStep_j13
 simp only [tmod4 n0]
 rw [grd_t gN,show c.Regs.getD (n % 4).toNat default=M.reg c (n % 4) from rfl,Int.tmod_eq_emod_of_nonneg g2.1,walk_s (by omega),Option.bind_some,walk_neg]
 by_cases h:M.walk v2.Mem c.Root (M.reg c (n % 4) % 64) c.User (decide (op=4)) = -1
 · rw [decide_eq_true h]; rfl
 · have hw:=walk_lt _ _ _ _ _ h
   rw [decide_eq_false h]
   have e1:w64 (c.Pc+1)=c.Pc+1:=w64_in (by omega) (by omega)
   rw [grd_t gA,grd_t gA,grd_t ⟨hw.1,by omega⟩,grd_t ⟨hw.1,by omega⟩,e1,Int.tmod_eq_emod_of_nonneg (a:=c.Pc+1) (by omega)]
   rcases ho with rfl | rfl
   · simp only [Int.reduceEq,decide_true,decide_false,cond_true,cond_false,Option.bind_some,JO.run]; rfl
   · simp only [Int.reduceEq,decide_true,decide_false,cond_true,cond_false,Option.bind_some,JO.run]; rfl
theorem did_s {v2:DBare} {c:DCore} {t:Bool} (hb:BOk (M.with_ v2 c)) {i:DIns} (hi:M.insOk i=true) :
 (Option.bind (F_spec_InsKernel i) fun v7 =>
  cond v7
   (cond c.User
    (Option.bind (F_spec_l3Trap c c.Pc (3:Int) (0:Int)) fun v8 =>
    some (DBare.mk v8 v2.Mem v2.In v2.Out))
    (Option.bind (F_spec_l3Kernel c v2.In v2.Out i) fun v9 =>
    some (DBare.mk v9.1 v2.Mem v9.2.1 v9.2.2)))
   (Option.bind (cond (!decide (i.Op=(3:Int)))
    (cond (!decide (i.Op=(4:Int)))
     (Option.bind (F_spec_l3Plain c i) fun v14 =>
     some (.out (DBare.mk v14 v2.Mem v2.In v2.Out)))
     (some (.go ())))
    (some (.go ()))) fun j10 =>
    JO.run j10 (F_spec_BareStep_j10 v2 (c,t) i)))=some (M.did (M.with_ v2 c) i):=by
 rw [insKernel_s hi,Option.bind_some]
 obtain ⟨op,a,n⟩:=i
 simp only [M.insOk,Bool.and_eq_true,M.inR_iff] at hi
 obtain ⟨⟨⟨o0,o1⟩,a0,a1⟩,n0,n1⟩:=hi
 simp only [M.did]
 cases hk:M.kern op with
 | true =>
  simp only [cond_true]
  rw [show (M.with_ v2 c).C=c from rfl]
  cases c.User with
  | true=>rfl
  | false =>
   have k:=kernel_s hb.k o0 o1 a0 a1 n0 hk
   rw [show F_spec_l3Kernel c v2.In v2.Out ⟨op,a,n⟩=_ from k]
   simp only [cond_false,Option.bind_some]
   have km:=kdo_mem (M.with_ v2 c) ⟨op,a,n⟩
   rw [show v2.Mem=(M.kdo (M.with_ v2 c) ⟨op,a,n⟩).Mem from km.symm]
 | false =>
  simp only [cond_false]
  by_cases h3:op=3
  · rw [decide_eq_true h3]
    simp only [Bool.not_true,cond_false,Option.bind_some,JO.run,Bool.true_or,cond_true]
    rw [mdo_s hb a0 a1 n0 (.inl h3)]
  · by_cases h4:op=4
    · rw [decide_eq_false h3,decide_eq_true h4]
      simp only [Bool.not_true,Bool.not_false,cond_true,cond_false,Option.bind_some,JO.run,Bool.or_true]
      rw [mdo_s hb a0 a1 n0 (.inr h4)]
    · have k:=plain_s hb.k o0 o1 a0 a1 n0 hk h3 h4
      rw [decide_eq_false h3,decide_eq_false h4,show F_spec_l3Plain c ⟨op,a,n⟩=_ from k]
      rfl
theorem copy_s {b:DBare} (h:SmallB b):F_spec_l3Copy b=some b:=by
 have:=h.c.regs; have:=h.mem; have:=h.i; have:=h.o
 unfold F_spec_l3Copy F_spec_l3Core
 rw [grd_t ⟨by simp only [List.length_nil]; omega,by simp only [List.length_nil]; omega⟩,Option.bind_some,grd_t ⟨by omega,by omega⟩,grd_t ⟨by omega,by omega⟩,grd_t ⟨by omega,by omega⟩]
 rfl
theorem bareStep_s {b:DBare} (h:SmallB b):F_spec_BareStep b=some (M.bareStep b):=by
 unfold F_spec_BareStep M.bareStep
 rw [bareOk_s h,Option.bind_some]
 cases hok:M.bareOk b with
 | false=>rfl
 | true =>
  have hb:=bOk_iff.1 hok
  have ht:=hb.tick
  have hl:=hb.len
  simp only [Bool.not_true,cond_false,cond_true]
  rw [copy_s h,Option.bind_some]
  unfold M.step
  cases b.C.Stopped with
  | true=>rfl
  | false =>
   simp only [cond_false]
   rw [ticked_s hb.timer.1 hb.timer.2,Option.bind_some]
   cases hw:(M.tick b.C).Waits && (M.tick b.C).On with
   | true=>rfl
   | false =>
    simp only [cond_false]
    rw [walk_s (by omega),Option.bind_some,walk_neg]
    by_cases h:M.walk b.Mem (M.tick b.C).Root (M.tick b.C).Pc (M.tick b.C).User false = -1
    · rw [decide_eq_true h]; rfl
    · have hw:=walk_lt _ _ _ _ _ h
      have hm:=mem_word hb hw.1 hw.2
      rw [decide_eq_false h,cond_false,cond_false,grd_t ⟨hw.1,by omega⟩,insFrom_s hm.1 hm.2,Option.bind_some]
      exact did_s ht (ins_ok hm.1 hm.2)
end
end Go.Proofs.Ytbanbjdcgdmkaaa
namespace Go.Proofs.Ytbanbjdcgdmkaaa
set_option linter.all false
theorem toIntS_eq {xs:List Int} (h:xs.length≤1048576):F_laws_toIntS xs=some xs:=by
 have key:∀ s:List Int × Int,(0≤s.2∧s.2≤(xs.length:Int)∧s.1.length=xs.length∧∀ i,i<s.2.toNat→s.1[i]?=xs[i]?)→iter (F_laws_toIntS_l2 xs) s=some (.ret (.go xs)):=by
  refine iter_rec _ (fun s=>xs.length - s.2.toNat) _ ?_
  rintro ⟨ys,k⟩ ⟨h0,h1,h2,h3⟩
  simp only at h0 h1 h2 h3
  by_cases hk:k<xs.length
  · refine .inl ⟨(ys.set k.toNat (xs.getD k.toNat default),k+1),?_,⟨by simp only; omega,by simp only; omega,by simpa using h2,?_⟩,by simp only; omega,rfl⟩
    · simp only [F_laws_toIntS_l2,decide_eq_true hk,cond_true,grd,h2]
      rw [if_pos ⟨h0,hk⟩,if_pos ⟨h0,hk⟩,w64_in (by omega) (by omega)]
    · intro j hj
      simp only at hj ⊢
      rw [List.getElem?_set]
      by_cases e:k.toNat=j
      · subst e; rw [if_pos rfl,if_pos (by omega),getD_lt (by omega),List.getElem?_eq_getElem (by omega)]
      · rw [if_neg e]; exact h3 j (by omega)
  · have hy:ys=xs:=by
     apply List.ext_getElem?
     intro j
     by_cases hj:j<xs.length
     · exact h3 j (by omega)
     · rw [List.getElem?_eq_none (by omega),List.getElem?_eq_none (by omega)]
    have hf:decide (k<(xs.length:Int))=false:=by simp; omega
    refine .inr ⟨?_,?_⟩
    · intro s'; simp only [F_laws_toIntS_l2,hf,cond_false]; simp
    · simp only [F_laws_toIntS_l2,hf,cond_false,hy]
 unfold F_laws_toIntS
 rw [grd_t ⟨by omega,by omega,by omega⟩,key _ ⟨by simp,by simp,by simp,by simp⟩]
 rfl
theorem eqIntS_eq {xs ys:List Int} (h:xs.length≤9223372036854775807):F_laws_eqIntS xs ys=some (decide (xs=ys)):=by
 unfold F_laws_eqIntS
 by_cases hl:xs.length=ys.length
 · have key:∀ k:Int,(0≤k∧k≤(xs.length:Int))→iter (F_laws_eqIntS_l2 xs ys) k=some (.ret (bif decide (xs.drop k.toNat=ys.drop k.toNat) then .go () else .out false)):=by
    refine iter_rec _ (fun k=>xs.length - k.toNat) _ ?_
    rintro k ⟨h0,h1⟩
    by_cases hk:k<xs.length
    · have e1:xs.drop k.toNat=xs.getD k.toNat default::xs.drop (k+1).toNat:=by
       rw [getD_lt (by omega),show (k+1).toNat=k.toNat+1 by omega]; exact List.drop_eq_getElem_cons (by omega)
      have e2:ys.drop k.toNat=ys.getD k.toNat default::ys.drop (k+1).toNat:=by
       rw [getD_lt (by omega),show (k+1).toNat=k.toNat+1 by omega]; exact List.drop_eq_getElem_cons (by omega)
      by_cases he:xs.getD k.toNat default=ys.getD k.toNat default
      · refine .inl ⟨k+1,?_,⟨by omega,by omega⟩,by omega,?_⟩
        · simp only [F_laws_eqIntS_l2,decide_eq_true hk,cond_true,grd]
          rw [if_pos ⟨h0,hk⟩,if_pos ⟨h0,by omega⟩,he,w64_in (by omega) (by omega)]
          simp
        · rw [e1,e2,he]; simp
      · have hf:(!decide (xs.getD k.toNat default=ys.getD k.toNat default))=true:=by rw [decide_eq_false he]; rfl
        refine .inr ⟨?_,?_⟩
        · intro s'
          simp only [F_laws_eqIntS_l2,decide_eq_true hk,cond_true,grd]
          rw [if_pos ⟨h0,hk⟩,if_pos ⟨h0,by omega⟩,hf]
          simp
        · simp only [F_laws_eqIntS_l2,decide_eq_true hk,cond_true,grd]
          rw [if_pos ⟨h0,hk⟩,if_pos ⟨h0,by omega⟩,hf,e1,e2]
          have:decide (xs.getD k.toNat default::xs.drop (k+1).toNat=ys.getD k.toNat default::ys.drop (k+1).toNat)=false:=decide_eq_false fun e=>he (List.cons.inj e).1
          rw [this]; rfl
    · have hk2:k=xs.length:=by omega
      subst hk2
      refine .inr ⟨?_,?_⟩
      · intro s'; simp [F_laws_eqIntS_l2]
      · simp [F_laws_eqIntS_l2,hl]
   rw [key 0 ⟨by omega,by omega⟩]
   have:decide ((xs.length:Int)=(ys.length:Int))=true:=by simp [hl]
   rw [this]
   by_cases e:xs=ys
   · subst e; simp [LO.val,JO.run,F_laws_eqIntS_j1]
   · simp [e,LO.val,JO.run]
 · have:decide ((xs.length:Int)=(ys.length:Int))=false:=by simp; omega
   rw [this]
   have e:xs≠ys:=fun e=>hl (by rw [e])
   simp [e]
end Go.Proofs.Ytbanbjdcgdmkaaa
namespace Go.Proofs.Ytbanbjdcgdmkaaa
set_option linter.all false
def upFrom (k:Int) (n:Nat):List Int:=(List.range n).map fun (i:Nat)=>k+(i:Int)
theorem upFrom_len {k:Int} {n:Nat}:(upFrom k n).length=n:=by simp [upFrom]
theorem markIntS_eq {xs:List Int} {k:Int} (h:xs.length≤9007199254740992) (h0:0≤k) (h1:k≤9007199254740992):F_laws_markIntS xs k=some (upFrom k xs.length,k+xs.length):=by
 have key:∀ s:List Int × Int × Int,(0≤s.2.2∧s.2.2≤(xs.length:Int)∧s.2.1=k+s.2.2∧s.1.length=xs.length∧∀ i,i<s.2.2.toNat→s.1[i]?=some (k+i))→iter F_laws_markIntS_l2 s=some (.ret (.go (k+xs.length,upFrom k xs.length))):=by
  refine iter_rec _ (fun s=>xs.length - s.2.2.toNat) _ ?_
  rintro ⟨ys,q,i⟩ ⟨a0,a1,a2,a3,a4⟩
  simp only at a0 a1 a2 a3 a4
  by_cases hi:i<xs.length
  · refine .inl ⟨(ys.set i.toNat q,q+1,i+1),?_,⟨by simp only; omega,by simp only; omega,by simp only; omega,by simpa using a3,?_⟩,by simp only; omega,rfl⟩
    · simp only [F_laws_markIntS_l2,a3,decide_eq_true hi,cond_true,grd]
      rw [if_pos ⟨a0,hi⟩,w64_in (by omega) (by omega),w64_in (by omega) (by omega)]
    · intro j hj
      simp only at hj ⊢
      rw [List.getElem?_set]
      by_cases e:i.toNat=j
      · subst e; rw [if_pos rfl,if_pos (by omega)]; congr 1; omega
      · rw [if_neg e]; exact a4 j (by omega)
  · have hi2:i=xs.length:=by omega
    have hy:ys=upFrom k xs.length:=by
     apply List.ext_getElem?
     intro j
     by_cases hj:j<xs.length
     · rw [a4 j (by omega)]; simp [upFrom,hj]
     · rw [List.getElem?_eq_none (by omega),List.getElem?_eq_none (by rw [upFrom_len]; omega)]
    have hf:decide (i<(ys.length:Int))=false:=by simp; omega
    refine .inr ⟨?_,?_⟩
    · intro s'; simp only [F_laws_markIntS_l2,hf,cond_false]; simp
    · simp only [F_laws_markIntS_l2,hf,cond_false,a2,hi2,hy]
      rw [← hy,a3]; simp
 unfold F_laws_markIntS
 rw [key _ ⟨by simp,by simp,by simp,rfl,by simp⟩]
 rfl
theorem heldIntS_eq {n:Nat} {k:Int} (h:n≤9007199254740992) (h0:0≤k) (h1:k≤9007199254740992):F_laws_heldIntS (upFrom k n) k=some (k+n):=by
 have key:∀ s:Int × Int,(0≤s.2∧s.2≤(n:Int)∧s.1=k+s.2)→iter (F_laws_heldIntS_l2 (upFrom k n)) s=some (.ret (.go (k+n))):=by
  refine iter_rec _ (fun s=>n - s.2.toNat) _ ?_
  rintro ⟨q,i⟩ ⟨a0,a1,a2⟩
  simp only at a0 a1 a2
  by_cases hi:i<n
  · refine .inl ⟨(q+1,i+1),?_,⟨by simp only; omega,by simp only; omega,by simp only; omega⟩,by simp only; omega,rfl⟩
    have hl:i<((upFrom k n).length:Int):=by rw [upFrom_len]; exact hi
    have hg:(upFrom k n).getD i.toNat default=q:=by
     rw [getD_lt (by rw [upFrom_len]; omega)]; simp only [upFrom,List.getElem_map,List.getElem_range]; omega
    simp only [F_laws_heldIntS_l2,decide_eq_true hl,cond_true,grd]
    rw [if_pos ⟨a0,hl⟩,hg,w64_in (by omega) (by omega),w64_in (by omega) (by omega)]
    simp
  · have hf:decide (i<((upFrom k n).length:Int))=false:=by simp [upFrom_len]; omega
    refine .inr ⟨?_,?_⟩
    · intro s'; simp only [F_laws_heldIntS_l2,hf,cond_false]; simp
    · simp only [F_laws_heldIntS_l2,hf,cond_false,a2]
      rw [show i=n by omega]
 unfold F_laws_heldIntS
 rw [key _ ⟨by simp,by simp,by simp⟩]
 rfl
theorem szIntS_eq {xs:List Int} {left:Int} (h:xs.length≤9223372036854775807) (h0:0≤left) (h1:left≤1048576):F_laws_szIntS xs left=some (if (xs.length:Int)≤left then left - xs.length else -1):=by
 unfold F_laws_szIntS
 rw [w64_in (by omega) (by omega)]
 by_cases hl:(xs.length:Int)≤left
 · have:decide (left - (xs.length:Int)<0)=false:=by simp; omega
   rw [this,if_pos hl]; rfl
 · have:decide (left - (xs.length:Int)<0)=true:=by simp; omega
   rw [this,if_neg hl]; rfl
end Go.Proofs.Ytbanbjdcgdmkaaa
namespace Go.Proofs.Ytbanbjdcgdmkaaa
set_option linter.all false
theorem toCore_eq {c:DCore} (h:SmallC c):F_laws_toCore c=some c:=by
 unfold F_laws_toCore; rw [toIntS_eq h.regs]; rfl
theorem eqCore_eq {a b:DCore} (h:a.Regs.length≤9223372036854775807):F_laws_eqCore a b=some (decide (a=b)):=by
 unfold F_laws_eqCore
 rw [eqIntS_eq h]
 obtain ⟨r,p1,p2,p3,p4,p5,p6,p7,p8,p9,p10,p11,p12⟩:=a
 obtain ⟨r',q1,q2,q3,q4,q5,q6,q7,q8,q9,q10,q11,q12⟩:=b
 simp only [Option.bind_some,DCore.mk.injEq]
 by_cases h0:r=r' <;> by_cases h1:p1=q1 <;> by_cases h2:p2=q2 <;> by_cases h3:p3=q3 <;> by_cases h4:p4=q4 <;> by_cases h6:p6=q6 <;> by_cases h7:p7=q7 <;> by_cases h8:p8=q8 <;> simp [*]
 cases p5 <;> cases q5 <;> cases p9 <;> cases q9 <;> cases p10 <;> cases q10 <;> cases p11 <;> cases q11 <;> cases p12 <;> cases q12 <;> rfl
theorem szCore_eq {c:DCore} {left:Int} (h:c.Regs.length≤9223372036854775807) (h0:0≤left) (h1:left≤1048576):F_laws_szCore c left=some (if (c.Regs.length:Int)≤left then left - c.Regs.length else -1):=by
 unfold F_laws_szCore
 rw [szIntS_eq h h0 h1]
 simp only [Option.bind_some]
 split
 · have:decide (left - (c.Regs.length:Int)<0)=false:=by simp; omega
   rw [this]; rfl
 · rfl
theorem lt_t {v:Int} (h:v<0):decide (v<0)=true:=decide_eq_true h
end Go.Proofs.Ytbanbjdcgdmkaaa
namespace Go.Proofs.Ytbanbjdcgdmkaaa
set_option linter.all false
theorem toBare_eq {b:DBare} (h:SmallB b):F_laws_toBare b=some b:=by
 unfold F_laws_toBare; rw [toCore_eq h.c,toIntS_eq h.mem,toIntS_eq h.i,toIntS_eq h.o]; rfl
theorem eqBare_eq {a b:DBare} (h:SmallB a):F_laws_eqBare a b=some (decide (a=b)):=by
 have:=h.c.regs; have:=h.mem; have:=h.i; have:=h.o
 unfold F_laws_eqBare
 rw [eqCore_eq (by omega),eqIntS_eq (by omega),eqIntS_eq (by omega),eqIntS_eq (by omega)]
 obtain ⟨c,m,i,o⟩:=a
 obtain ⟨c',m',i',o'⟩:=b
 simp only [Option.bind_some,DBare.mk.injEq]
 by_cases h0:c=c' <;> by_cases h1:m=m' <;> by_cases h2:i=i' <;> by_cases h3:o=o' <;> simp [*]
theorem szBare_eq {b:DBare} (h1:b.C.Regs.length≤9223372036854775807) (h2:b.Mem.length≤9223372036854775807) (h3:b.In.length≤9223372036854775807) (h4:b.Out.length≤9223372036854775807) :
 ∃ v,F_laws_szBare b 1048576=some v∧(v<0∨SmallB b):=by
 unfold F_laws_szBare
 rw [szCore_eq h1 (by omega) (by omega)]
 simp only [Option.bind_some]
 split
 · rename_i e1
   rw [show decide ((1048576:Int) - (b.C.Regs.length:Int)<0)=false by simp; omega,cond_false,szIntS_eq h2 (by omega) (by omega)]
   simp only [Option.bind_some]
   split
   · rename_i e2
     rw [show decide ((1048576:Int) - (b.C.Regs.length:Int) - (b.Mem.length:Int)<0)=false by simp; omega,cond_false,szIntS_eq h3 (by omega) (by omega)]
     simp only [Option.bind_some]
     split
     · rename_i e3
       rw [show decide ((1048576:Int) - (b.C.Regs.length:Int) - (b.Mem.length:Int) - (b.In.length:Int)<0)=false by simp; omega,cond_false,szIntS_eq h4 (by omega) (by omega)]
       simp only [Option.bind_some]
       split
       · rename_i e4
         exact ⟨_,by rw [show decide ((1048576:Int) - (b.C.Regs.length:Int) - (b.Mem.length:Int) - (b.In.length:Int) - (b.Out.length:Int)<0)=false by simp; omega]; rfl,.inr ⟨⟨by omega⟩,by omega,by omega,by omega⟩⟩
       · exact ⟨-1,rfl,.inl (by omega)⟩
     · exact ⟨-1,rfl,.inl (by omega)⟩
   · exact ⟨-1,rfl,.inl (by omega)⟩
 · exact ⟨-1,rfl,.inl (by omega)⟩
end Go.Proofs.Ytbanbjdcgdmkaaa
namespace Go.Proofs.Ytbanbjdcgdmkaaa
set_option linter.all false
theorem markCore_eq {c:DCore} (h:SmallC c) {k:Int} (h0:0≤k) (h1:k≤100):F_laws_markCore c k=some (upFrom k c.Regs.length,k+c.Regs.length):=by
 have:=h.regs
 unfold F_laws_markCore
 rw [markIntS_eq (by omega) h0 (by omega),Option.bind_some,grd_t (by simp only [upFrom_len])]
theorem markBare_eq {b:DBare} (h:SmallB b) {k:Int} (h0:0≤k) (h1:k≤100):F_laws_markBare b k=some (upFrom k b.C.Regs.length,upFrom (k+b.C.Regs.length) b.Mem.length,upFrom (k+b.C.Regs.length+b.Mem.length) b.In.length,upFrom (k+b.C.Regs.length+b.Mem.length+b.In.length) b.Out.length,k+b.C.Regs.length+b.Mem.length+b.In.length+b.Out.length):=by
 have:=h.c.regs; have:=h.mem; have:=h.i; have:=h.o
 unfold F_laws_markBare
 rw [markCore_eq h.c h0 h1,Option.bind_some,grd_t (by simp only [upFrom_len]),markIntS_eq (by omega) (by simp only; omega) (by simp only; omega),Option.bind_some,grd_t (by simp only [upFrom_len]),markIntS_eq (by omega) (by simp only; omega) (by simp only; omega),Option.bind_some,grd_t (by simp only [upFrom_len]),markIntS_eq (by omega) (by simp only; omega) (by simp only; omega),Option.bind_some,grd_t (by simp only [upFrom_len])]
theorem heldBare_eq {r m i o:Nat} (hr:r≤1048576) (hm:m≤1048576) (hi:i≤1048576) (ho:o≤1048576) {k:Int} (h0:0≤k) (h1:k≤100) (pc ro ve sa su ca ba ti wa us on st) :
 F_laws_heldBare ⟨⟨upFrom k r,pc,ro,ve,sa,su,ca,ba,ti,wa,us,on,st⟩,upFrom (k+r) m,upFrom (k+r+m) i,upFrom (k+r+m+i) o⟩ k=some (k+r+m+i+o):=by
 unfold F_laws_heldBare F_laws_heldCore
 simp only
 rw [heldIntS_eq (by omega) h0 (by omega),Option.bind_some,decide_eq_false (show ¬ (k+(r:Int))<0 by omega),cond_false,Option.bind_some,decide_eq_false (show ¬ (k+(r:Int))<0 by omega),cond_false,
  heldIntS_eq (by omega) (by omega) (by omega),Option.bind_some,decide_eq_false (show ¬ (k+(r:Int)+(m:Int))<0 by omega),cond_false,
  heldIntS_eq (by omega) (by omega) (by omega),Option.bind_some,decide_eq_false (show ¬ (k+(r:Int)+(m:Int)+(i:Int))<0 by omega),cond_false,
  heldIntS_eq (by omega) (by omega) (by omega),Option.bind_some,decide_eq_false (show ¬ (k+(r:Int)+(m:Int)+(i:Int)+(o:Int))<0 by omega),cond_false]
end Go.Proofs.Ytbanbjdcgdmkaaa
namespace Go.Proofs.Ytbanbjdcgdmkaaa
set_option linter.all false
theorem bareStep_small (b:DBare):SmallB (M.bareStep b):=by
 unfold M.bareStep
 cases h:M.bareOk b with
 | true=>exact (step_ok (bOk_iff.1 h)).small
 | false=>exact zero_small
theorem exactBareStep {b:DBare} (h1:b.C.Regs.length≤9223372036854775807) (h2:b.Mem.length≤9223372036854775807) (h3:b.In.length≤9223372036854775807) (h4:b.Out.length≤9223372036854775807):F_laws_FnExactBareStep b=some true:=by
 unfold F_laws_FnExactBareStep
 obtain ⟨v,hv,hs⟩:=szBare_eq h1 h2 h3 h4
 rw [hv]
 simp only [Option.bind_some]
 by_cases h0:v<0
 · rw [lt_t h0]; rfl
 · have hs:SmallB b:=hs.resolve_left h0
   have hz:=bareStep_small b
   have:=hz.c.regs; have:=hz.mem; have:=hz.i; have:=hz.o
   rw [decide_eq_false h0,cond_false]
   simp only [toBare_eq hs,bareStep_i hs,bareStep_s hs,Option.bind_some,eqBare_eq hs,eqBare_eq hz,decide_true,Bool.not_true,cond_false,markBare_eq hs (k:=1) (by omega) (by omega),markBare_eq hz (k:=1) (by omega) (by omega)]
   rw [grd_t (by simp only [upFrom_len]),grd_t (by simp only [upFrom_len]),grd_t (by simp only [upFrom_len]),grd_t (by simp only [upFrom_len]),decide_eq_false (by omega),cond_false,grd_t (by simp only [upFrom_len]),grd_t (by simp only [upFrom_len]),grd_t (by simp only [upFrom_len]),grd_t (by simp only [upFrom_len])]
   simp only [heldBare_eq (r:=(M.bareStep b).C.Regs.length) (m:=(M.bareStep b).Mem.length) (i:=(M.bareStep b).In.length) (o:=(M.bareStep b).Out.length) (by omega) (by omega) (by omega) (by omega) (k:=1) (by omega) (by omega),Option.bind_some,decide_true,Bool.not_true,cond_false]
   rw [decide_eq_false (by omega)]; rfl
end Go.Proofs.Ytbanbjdcgdmkaaa
namespace Go.Proofs.Ytbanbjdcgdmkaaa
set_option linter.all false
namespace M
def steps:Nat→DBare→DBare
 | 0,b=>b
 | n+1,b=>step (steps n b)
def bareRun (b:DBare) (n:Int):DBare:=bif bareOk b && inR 0 300 n then steps n.toNat b else zero
end M
theorem steps_ok {b:DBare} (hb:BOk b):∀ n,BOk (M.steps n b)
 | 0=>hb
 | n+1=>step_ok (steps_ok hb n)
abbrev RSx:=(List Int) × Int × Int × Int × Int × Bool × Int × Int × Int × Bool × Bool × Bool × Bool × (List Int) × (List Int) × (List Int)
abbrev RSt:=(List Int) × Int × Int × Int × Int × Bool × Int × Int × Int × Bool × Bool × Bool × Bool × (List Int) × (List Int) × (List Int) × Int
def run_un (s:RSt):DBare:=⟨⟨s.1,s.2.1,s.2.2.1,s.2.2.2.1,s.2.2.2.2.1,s.2.2.2.2.2.1,s.2.2.2.2.2.2.1,s.2.2.2.2.2.2.2.1,s.2.2.2.2.2.2.2.2.1,s.2.2.2.2.2.2.2.2.2.1,s.2.2.2.2.2.2.2.2.2.2.1,s.2.2.2.2.2.2.2.2.2.2.2.1,s.2.2.2.2.2.2.2.2.2.2.2.2.1⟩,s.2.2.2.2.2.2.2.2.2.2.2.2.2.1,s.2.2.2.2.2.2.2.2.2.2.2.2.2.2.1,s.2.2.2.2.2.2.2.2.2.2.2.2.2.2.2.1⟩
def run_k (s:RSt):Int:=s.2.2.2.2.2.2.2.2.2.2.2.2.2.2.2.2
def run_unx (s:RSx):DBare:=⟨⟨s.1,s.2.1,s.2.2.1,s.2.2.2.1,s.2.2.2.2.1,s.2.2.2.2.2.1,s.2.2.2.2.2.2.1,s.2.2.2.2.2.2.2.1,s.2.2.2.2.2.2.2.2.1,s.2.2.2.2.2.2.2.2.2.1,s.2.2.2.2.2.2.2.2.2.2.1,s.2.2.2.2.2.2.2.2.2.2.2.1,s.2.2.2.2.2.2.2.2.2.2.2.2.1⟩,s.2.2.2.2.2.2.2.2.2.2.2.2.2.1,s.2.2.2.2.2.2.2.2.2.2.2.2.2.2.1,s.2.2.2.2.2.2.2.2.2.2.2.2.2.2.2⟩
def run_tp (b:DBare) (k:Int):RSt:=(b.C.Regs,b.C.Pc,b.C.Root,b.C.Vector,b.C.Saved,b.C.SavedUser,b.C.Cause,b.C.Bad,b.C.Timer,b.C.Waits,b.C.User,b.C.On,b.C.Stopped,b.Mem,b.In,b.Out,k)
def run_tx (b:DBare):RSx:=(b.C.Regs,b.C.Pc,b.C.Root,b.C.Vector,b.C.Saved,b.C.SavedUser,b.C.Cause,b.C.Bad,b.C.Timer,b.C.Waits,b.C.User,b.C.On,b.C.Stopped,b.Mem,b.In,b.Out)
section
variable {b : DBare} {n : Int}
theorem run_loop (hb:BOk b) (h1:n≤300) {step:RSt→Option (LO RSt (JO RSx DBare))} {f:DBare→Option DBare} (hf:∀ b,BOk b→f b=some (M.step b))
 (e:∀ s,step s=cond (decide (run_k s<n)) (Option.bind (f (run_un s)) fun v=>some (.next (run_tp v (w64 (run_k s+1))))) (some (.ret (.go (run_tx (run_un s)))))) (h0:0≤n) :
 Ex (Option.bind (iter step (run_tp b 0)) LO.val) (fun j=>∃ t,j = .go t∧run_unx t=M.steps n.toNat b):=by
 refine Ex.loopv (fun s=>0≤run_k s∧run_k s≤n∧run_un s=M.steps (run_k s).toNat b) (fun s=>n.toNat - (run_k s).toNat) (fun t=>run_unx t=M.steps n.toNat b) ⟨Int.le_refl _,h0,rfl⟩ ?_
 rintro s ⟨k0,k1,k2⟩
 rw [e]
 refine Ex.cond (fun hk=>?_) fun hk=>?_
 · have hk:run_k s<n:=of_decide_eq_true hk
   rw [k2,hf _ (steps_ok hb _),Option.bind_some,w64_in (by omega) (by omega)]
   refine Ex.ret (.inl ⟨_,rfl,⟨?_,?_,?_⟩,?_⟩)
   · show 0≤run_k s+1; omega
   · show run_k s+1≤n; omega
   · show M.step (M.steps (run_k s).toNat b)=M.steps (run_k s+1).toNat b
     rw [show (run_k s+1).toNat=(run_k s).toNat+1 by omega]; rfl
   · show n.toNat - (run_k s+1).toNat<n.toNat - (run_k s).toNat; omega
 · have hk:¬ run_k s<n:=of_decide_eq_false hk
   refine Ex.ret (.inr ⟨_,rfl,?_⟩)
   show run_un s=_
   rw [k2,show run_k s=n by omega]
theorem bareRun_i (h:SmallB b):F_impl_BareRun b n=some (M.bareRun b n):=by
 unfold F_impl_BareRun M.bareRun
 rw [bareOk_i h,Option.bind_some]
 cases hok:M.bareOk b with
 | false=>rfl
 | true =>
  have hb:=bOk_iff.1 hok
  simp only [Bool.not_true,cond_false,Bool.true_and,M.inR]
  by_cases h0:n<0
  · rw [decide_eq_true h0,decide_eq_false (show ¬ 0≤n by omega)]; rfl
  · rw [decide_eq_false h0,decide_eq_true (show 0≤n by omega)]
    by_cases h1:300<n
    · rw [decide_eq_true h1,decide_eq_false (show ¬ n≤300 by omega)]; rfl
    · rw [decide_eq_false h1,decide_eq_true (show n≤300 by omega)]
      obtain ⟨_,g1,t,rfl,g2⟩:=run_loop (step:=F_impl_BareRun_l4 n) hb (by omega) (f:=F_impl_stepped) (fun b hb=>stepped_i hb) (fun s=>rfl) (by omega)
      simp only [cond_false,Bool.and_self,cond_true]
      rw [show (b.C.Regs,b.C.Pc,b.C.Root,b.C.Vector,b.C.Saved,b.C.SavedUser,b.C.Cause,b.C.Bad,b.C.Timer,b.C.Waits,b.C.User,b.C.On,b.C.Stopped,b.Mem,b.In,b.Out,(0:Int))=run_tp b 0 from rfl,g1,Option.bind_some]
      show Option.bind (F_impl_copiedBare (run_unx t)) (fun v=>some v)=_
      rw [g2,copiedBare_i (steps_ok hb _).small]; rfl
theorem bareRun_s (h:SmallB b):F_spec_BareRun b n=some (M.bareRun b n):=by
 unfold F_spec_BareRun M.bareRun
 rw [bareOk_s h,Option.bind_some,l1In_s]
 cases hok:M.bareOk b with
 | false=>rfl
 | true =>
  have hb:=bOk_iff.1 hok
  simp only [Bool.not_true,cond_false,Bool.true_and,Option.bind_some]
  cases hr:M.inR 0 300 n with
  | false=>rfl
  | true =>
   have hr:=M.inR_iff.1 hr
   obtain ⟨_,g1,t,rfl,g2⟩:=run_loop (step:=F_spec_BareRun_l5 n) hb (by omega) (f:=F_spec_BareStep) (fun b hb=>by rw [bareStep_s hb.small,M.bareStep,bOk_iff.2 hb]; rfl) (fun s=>rfl) (by omega)
   simp only [Bool.not_true,cond_false,cond_true]
   rw [copy_s h,Option.bind_some]
   rw [show (b.C.Regs,b.C.Pc,b.C.Root,b.C.Vector,b.C.Saved,b.C.SavedUser,b.C.Cause,b.C.Bad,b.C.Timer,b.C.Waits,b.C.User,b.C.On,b.C.Stopped,b.Mem,b.In,b.Out,(0:Int))=run_tp b 0 from rfl,g1,Option.bind_some]
   show some (run_unx t)=_
   rw [g2]
theorem bareRun_small (b:DBare) (n:Int):SmallB (M.bareRun b n):=by
 unfold M.bareRun
 cases h:M.bareOk b with
 | true =>
  cases M.inR 0 300 n with
  | true=>exact (steps_ok (bOk_iff.1 h) _).small
  | false=>exact zero_small
 | false=>exact zero_small
end
end Go.Proofs.Ytbanbjdcgdmkaaa
namespace Go.Proofs.Ytbanbjdcgdmkaaa
set_option linter.all false
theorem exactBareRun {b:DBare} {n:Int} (h1:b.C.Regs.length≤9223372036854775807) (h2:b.Mem.length≤9223372036854775807) (h3:b.In.length≤9223372036854775807) (h4:b.Out.length≤9223372036854775807):F_laws_FnExactBareRun b n=some true:=by
 unfold F_laws_FnExactBareRun
 obtain ⟨v,hv,hs⟩:=szBare_eq h1 h2 h3 h4
 rw [hv]
 simp only [Option.bind_some]
 by_cases h0:v<0
 · rw [lt_t h0]; rfl
 · have hs:SmallB b:=hs.resolve_left h0
   have hz:=bareRun_small b n
   have:=hz.c.regs; have:=hz.mem; have:=hz.i; have:=hz.o
   rw [decide_eq_false h0,cond_false]
   simp only [toBare_eq hs,bareRun_i hs,bareRun_s hs,Option.bind_some,eqBare_eq hs,eqBare_eq hz,decide_true,Bool.not_true,cond_false,markBare_eq hs (k:=1) (by omega) (by omega),markBare_eq hz (k:=1) (by omega) (by omega)]
   rw [grd_t (by simp only [upFrom_len]),grd_t (by simp only [upFrom_len]),grd_t (by simp only [upFrom_len]),grd_t (by simp only [upFrom_len]),decide_eq_false (by omega),cond_false,grd_t (by simp only [upFrom_len]),grd_t (by simp only [upFrom_len]),grd_t (by simp only [upFrom_len]),grd_t (by simp only [upFrom_len])]
   simp only [heldBare_eq (r:=(M.bareRun b n).C.Regs.length) (m:=(M.bareRun b n).Mem.length) (i:=(M.bareRun b n).In.length) (o:=(M.bareRun b n).Out.length) (by omega) (by omega) (by omega) (by omega) (k:=1) (by omega) (by omega),Option.bind_some,decide_true,Bool.not_true,cond_false]
   rw [decide_eq_false (by omega)]; rfl
end Go.Proofs.Ytbanbjdcgdmkaaa
