/- The plain functions: what they answer. -/
import Derived.Test.YtcgggihjcelmhaaGreatZY
import Derived.Test.YtcgggihjcelmhaaGreatWHE1
import Derived.Laws.Bits64
namespace Go.Proofs.YtcgggihjcelmhaaGreat
open Option renaming bind → x4
open List renaming getD_eq_getElem?_getD → x6, getD → x8, length → x9, replicate → j0, all_eq_true → w5, all_cons → y4, length_append → y5, length_cons → y7, getElem?_eq_getElem → y9, range → u7, getElem?_append_right → d9, getElem?_append_left → e7, mem_range → f8, mem_or_eq_of_mem_set → l5, length_replicate → l6, length_nil → l7, length_take → m7, take → o5, getElem?_set → o9, length_drop → p8, take_of_length_le → qQX, drop → qQK, getElem?_eq_none → qQH, flatMap_cons → qZX, mem_filter → qZJ, getElem_set_self → qXQ, mem_flatMap → qXZ, getElem_replicate → qXJ, ext_getElem? → qXW, foldl_cons → qXV
open Int renaming toNat → x7, tmod → y6, tdiv → n8, tdiv_eq_ediv_of_nonneg → qZW
open Nat renaming le_refl → k9, le_trans → qQQ
open Bool renaming not_eq_true' → u0, and_true → e9, true_and → f7, or_eq_true → r9, false_or → qQU
set_option linter.all false
theorem oB.{u,v} {α:Type u} {β:Type v} (a:α) (f:α->Option β):(some a).bind f=f a:=rfl
theorem dF{p:Prop}[Decidable p](h:¬p):decide p=false:=decide_eq_false h
theorem dT{p:Prop}[Decidable p](h:p):decide p=true:=decide_eq_true h
theorem cFq.{u} {α:Sort u} (a b:α):cond false a b=b:=rfl
theorem cTq.{u} {α:Sort u} (a b:α):cond true a b=a:=rfl
theorem bT:(!true)=false:=rfl
theorem bF:(!false)=true:=rfl
theorem bA(a b:Bool):((a&&b)=true)=(a=true/\b=true):=Bool.and_eq_true a b
theorem iT(n:Nat):x7 (n:Int)=n:=rfl
theorem iM{a b:Int}(h:0<=a):a.tmod b=a%b:=Int.tmod_eq_emod_of_nonneg h
theorem lS.{u} {α:Type u} {xs:List α} {i:Nat} {a:α}:(xs.set i a).length=xs.length:=List.length_set
theorem aQ{α:Type}[Inhabited α]{xs:List α}{i:Nat}(h:i<xs.length):xs.getD i default=xs[i]:=by simp[x8,h]
namespace M
def inR(lo hi n:Int):Bool:=decide (lo<=n)&&decide (n<=hi)
def wordOk(n:Int):Bool:=inR 0 4095 n
def wordsOk(xs:List Int):Bool:=xs.all wordOk
def memOk(xs:List Int):Bool:=decide (xs.length=64)&&wordsOk xs
theorem inR_iff{lo hi n:Int}:inR lo hi n=true↔lo<=n/\n<=hi:=by simp[inR]
end M
theorem bZn{b:Bool}{x:Option Bool}{y:Bool}(h:x=some y):(cond b x (some false))=some (b&&y):=by cases b<;>simp[h]
theorem vQ{b y:Bool}:(cond b (some y) (some false))=some (b&&y):=by cases b<;>rfl
theorem aHc(n:Int):fS n=some (M.wordOk n):=by unfold fS;rw[vQ];rfl
theorem rB(n lo hi:Int):bU n lo hi=some (M.inR lo hi n):=by unfold bU;rw[vQ];rfl
theorem uV(n:Int):fO n=some (M.wordOk n):=by unfold fO;rw[rB];rfl
theorem aZm{a b:Int}:decide (a<b+1)=decide (a<=b):=by rw[decide_eq_decide];omega
theorem xK {T:Type} [Inhabited T] {xs:List T} {Pf:T->Option Bool} {p:T->Bool} (hP:∀x,Pf x=some (p x)) (hl:xs.length<=9223372036854775806) (step:Int->Option (LO Int (JO Unit Bool)))
 (hs:∀k,step k=cond (decide (k<((x9 xs:Nat):Int))) (grd ((0:Int)<=k/\k<((x9 xs:Nat):Int)) (x4 (Pf (x8 xs (x7 k) default)) λv=>cond (!v) (some (.ret (.out false))) (some (.next (w64 (k+(1:Int))))))) (some (.ret (.go ())))):
 iter step 0=some (.ret (bif xs.all p then .go ()else .out false)):=by
 have key:∀k:Int,(0<=k/\k<=(xs.length:Int))->iter step k=some (.ret (bif (xs.drop k.toNat).all p then .go ()else .out false)):=by
  refine bAu _ (λk=>xs.length-k.toNat) _ ?_
  rintro k ⟨h0,h1⟩
  by_cases hk:k<xs.length
  · have e1:xs.drop k.toNat=xs.getD k.toNat default::xs.drop (k+1).toNat:=by
     rw[aQ (by omega),show(k+1).toNat=k.toNat+1 by omega];exact List.drop_eq_getElem_cons (by omega)
    have hst:step k=cond (!p (xs.getD k.toNat default)) (some (.ret (.out false))) (some (.next (k+1))):=(by rw[hs,dT hk,cTq,aB ⟨h0,hk⟩,hP,aD (by omega) (by omega)];rfl);(cases hp:p (xs.getD k.toNat default)with|true=>refine .inl ⟨k+1,by rw[hst,hp];rfl,⟨by omega,by omega⟩,by omega,?_⟩;rw[e1,y4,hp,f7]|false=>refine .inr ⟨λs'=>by rw[hst,hp];simp,?_⟩;rw[hst,hp,e1,y4,hp];rfl)
  {have hk2:k=xs.length:=(by omega);have hf:decide (k<((x9 xs:Nat):Int))=false:=(by simp;omega);refine .inr ⟨λs'=>by rw[hs,hf];simp,?_⟩;rw[hs,hf,hk2];simp}
 simpa using key 0 ⟨by omega,by omega⟩
theorem aEa{xs:List Int}(h:xs.length<=9223372036854775806):iQ xs=some (M.wordsOk xs):=by unfold iQ;rw[xK aHc h (aAq xs) (λk=>rfl)];simp only[M.wordsOk];cases xs.all M.wordOk<;>rfl
theorem bHx{xs:List Int}(h:xs.length<=9223372036854775806):rE xs=some (M.memOk xs):=by unfold rE;rw[aEa h];show cond _ (some _) (some false)=_;rw[vQ];simp only[M.memOk];congr 2;rw[decide_eq_decide];omega
theorem bYj{xs:List Int}(h:xs.length<=9223372036854775806):wI xs=some (M.memOk xs):=by unfold wI;rw[xK uV h (aEj xs) (λk=>rfl)];simp only[M.memOk,M.wordsOk];cases xs.all M.wordOk;{simp[LO.val,JO.run]};{simp only[LO.val,JO.run,oB,aEb,cTq,e9];congr 1;rw[decide_eq_decide];omega}
theorem aLm{xs:List Int}(h:M.memOk xs=true):xs.length=64:=by simp only[M.memOk,bA,decide_eq_true_eq]at h;exact h.1
theorem gI{xs:List Int}(h:M.wordsOk xs=true){i:Nat}(hi:i<xs.length):0<=xs.getD i default/\xs.getD i default<=4095:=by rw[aQ hi];exact M.inR_iff.1 (w5.1 h _ (List.getElem_mem hi))
theorem aEz{xs:List Int}(h:M.wordsOk xs=true){i:Nat}{w:Int}(h0:0<=w)(h1:w<=4095):M.wordsOk (xs.set i w)=true:=by refine w5.2 λx hx=>?_;rcases l5 hx with h2|rfl;{exact w5.1 h x h2};{exact M.inR_iff.2 ⟨h0,h1⟩}
section
variable {T σ S R : Type} [Inhabited T]
theorem vA {xs:List T} {step:S->Option (LO S R)} (enc:σ->Int->S) (p:T->Bool) (g:σ->T->σ) (fin:σ->R) (r:R) (Inv:Nat->σ->Prop)
 (hs:∀(i:Nat) x s,(i:Int)<(xs.length:Int)->x∈xs->xs.getD i default=x->Inv i s->step (enc s i)=some (bif p x then .next (enc (g s x) ((i:Int)+1))else .ret r)/\(p x=true->Inv (i+1) (g s x)))
 (he:∀s,Inv xs.length s->step (enc s xs.length)=some (.ret (fin s))) (s:σ) (hi:Inv 0 s):
 iter step (enc s 0)=some (.ret (bif xs.all p then fin (xs.foldl g s)else r))/\(xs.all p=true->Inv xs.length (xs.foldl g s)):=by
 have key:∀(suf pre:List T) (s:σ),xs=pre++suf->Inv pre.length s->iter step (enc s pre.length)=some (.ret (bif suf.all p then fin (suf.foldl g s)else r))/\(suf.all p=true->Inv xs.length (suf.foldl g s)):=by
  intro suf;induction suf with
  |nil=>intro pre s hx hi;rw[List.append_nil]at hx;subst hx;rw[cR,he s hi];exact⟨rfl,λ_=>hi⟩
  |cons x suf ih=>intro pre s hx hi;obtain⟨h1,h2⟩:=hs pre.length x s (by rw[hx];simp;omega) (by rw[hx];simp) (by rw[hx];simp[x8]) hi;rw[cR,h1];(cases hp:p x with|false=>simp[y4,hp]|true=>obtain⟨g1,g2⟩:=ih (pre++[x]) (g s x) (by rw[hx];simp) (by simpa using h2 hp);simp only[y5,y7,l7,Nat.zero_add,Int.natCast_add]at g1;simp only[cTq,y4,hp,f7,qXV];exact⟨g1,g2⟩)
 simpa using key xs [] s rfl hi
theorem pD {xs:List T} {step:S->Option (LO S R)} (enc:σ->Int->S) (g:σ->T->σ) (fin:σ->R) (Inv:Nat->σ->Prop)
 (hs:∀(i:Nat) x s,(i:Int)<(xs.length:Int)->x∈xs->xs.getD i default=x->Inv i s->step (enc s i)=some (.next (enc (g s x) ((i:Int)+1)))/\Inv (i+1) (g s x))
 (he:∀s,Inv xs.length s->step (enc s xs.length)=some (.ret (fin s))) (s:σ) (hi:Inv 0 s):
 iter step (enc s 0)=some (.ret (fin (xs.foldl g s)))/\Inv xs.length (xs.foldl g s):=by
 have h:=vA (p:=λ_=>true) enc g fin (fin s) Inv (λi x s h1 h2 h3 h4=>⟨(hs i x s h1 h2 h3 h4).1,λ_=>(hs i x s h1 h2 h3 h4).2⟩) he s hi;have e:xs.all (λ_=>true)=true:=(by simp);rw[e]at h;exact⟨h.1,h.2 rfl⟩
theorem aBk {n:Nat} {step:S->Option (LO S R)} (enc:σ->Int->S) (g:σ->Nat->σ) (fin:σ->R) (Inv:Nat->σ->Prop)
 (hs:∀(i:Nat) s,i<n->Inv i s->step (enc s i)=some (.next (enc (g s i) ((i:Int)+1)))/\Inv (i+1) (g s i))
 (he:∀s,Inv n s->step (enc s n)=some (.ret (fin s))) (s:σ) (hi:Inv 0 s):
 iter step (enc s 0)=some (.ret (fin ((u7 n).foldl g s)))/\Inv n ((u7 n).foldl g s):=by
 have h:=pD (xs:=u7 n) enc g fin Inv (λi x s h1 h2 h3 h4=>by have hi:i<n:=(by simpa using h1);have:x=i:=(by rw[<-h3];simp[x8,hi]);subst this;exact hs x s hi h4) (by simpa using he) s hi;simpa using h
theorem aYh {n:Nat} {step:S->Option (LO S R)} (enc:Int->S) (p:Nat->Bool) (a r:R)
 (hs:∀(i:Nat),i<n->step (enc i)=some (bif p i then .next (enc ((i:Int)+1))else .ret r))
 (he:step (enc n)=some (.ret a)):
 iter step (enc 0)=some (.ret (bif (u7 n).all p then a else r)):=by
 have h:=vA (xs:=u7 n) (σ:=Unit) (λ_ k=>enc k) p (λ_ _=>()) (λ_=>a) r (λ_ _=>True) (λi x s h1 h2 h3 h4=>by have hi:i<n:=(by simpa using h1);have:x=i:=(by rw[<-h3];simp[x8,hi]);subst this;exact⟨hs x hi,λ_=>trivial⟩) (λs _=>by simpa using he) () trivial;exact h.1
theorem cH {n:Nat} {step:S->Option (LO S R)} (st:Nat->S) (ok:Nat->Bool) (a r:R)
 (hs:∀(i:Nat),i<n->(∀j,j<i->ok j=true)->step (st i)=some (bif ok i then .next (st (i+1))else .ret r))
 (he:(∀j,j<n->ok j=true)->step (st n)=some (.ret a)):
 iter step (st 0)=some (.ret (bif (u7 n).all ok then a else r)):=by
 have key:∀m i,i+m=n->(∀j,j<i->ok j=true)->iter step (st i)=some (.ret (bif (u7 n).all ok then a else r)):=by
  intro m;induction m with
  |zero=>intro i hi ho;have:i=n:=(by omega);subst this;have e:(u7 i).all ok=true:=(by simp only[w5,f8];exact ho);rw[cR,he ho,e];rfl
  |succ m ih=>intro i hi ho;rw[cR,hs i (by omega) ho];(cases e:ok i with|true=>refine ih (i+1) (by omega) ?_;intro j hj;by_cases h:j=i;{rw[h,e]};{exact ho j (by omega)}|false=>have e2:(u7 n).all ok=false:=(by rw[List.all_eq_false];exact⟨i,by rw[f8];omega,by rw[e];simp⟩);rw[e2];rfl)
 exact key n 0 (by omega) λj hj=>by omega
end
theorem sY{α β σ:Type}{f:α->List β}{g:σ->β->σ}:∀{xs:List α} {s:σ},xs.foldl (λs x=>(f x).foldl g s) s=(xs.flatMap f).foldl g s
 |[],_=>rfl
 |x::xs,s=>by simp only[qXV,qZX,List.foldl_append];exact sY
theorem aOp(n:Int):cL n=some (M.inR 0 63 n):=by unfold cL;rw[vQ,show(64:Int)=63+1 from rfl,aZm];rfl
theorem xS(n:Int):fR n=some (M.inR 0 7 n):=by unfold fR;rw[vQ,show(8:Int)=7+1 from rfl,aZm];rfl
theorem bEd(n:Int):mQ n=some (M.inR (-1) 7 n):=by unfold mQ;rw[xS];by_cases h:n=-1;{subst h;rfl};{rw[dF h];show some (M.inR 0 7 n)=_;congr 1;simp only[M.inR];congr 1;rw[decide_eq_decide];omega}
noncomputable instance:DecidableEq DCore:=λa b=>Classical.propDecidable (a=b)
noncomputable instance:DecidableEq DBare:=λa b=>Classical.propDecidable (a=b)
namespace M
def coreOk(c:DCore):Bool:=decide (c.Regs.length=4)&&wordsOk c.Regs&&(inR 0 63 c.Pc&&inR 0 63 c.Vector&&inR 0 63 c.Saved&&inR 0 63 c.Bad)&&inR (-1) 7 c.Root&&inR 0 4 c.Cause&&wordOk c.Timer
def rowOk(xs:List Int):Bool:=decide (xs.length<=30)&&wordsOk xs
def bareOk(b:DBare):Bool:=coreOk b.C&&memOk b.Mem&&rowOk b.In&&rowOk b.Out
end M
theorem aMo{xs:List Int}(h:xs.length<=9223372036854775806):lW xs=some (M.rowOk xs):=by unfold lW;rw[aEa h];show cond _ (some _) (some false)=_;rw[vQ];simp only[M.rowOk];congr 2;rw[decide_eq_decide];omega
theorem aMq{xs:List Int}(h:xs.length<=9223372036854775806):dZ xs 30=some (M.rowOk xs):=by unfold dZ;rw[xK uV h (tK xs) (λk=>rfl)];simp only[M.rowOk,M.wordsOk];cases xs.all M.wordOk;{simp[LO.val,JO.run]};{simp only[LO.val,JO.run,oB,tT,cTq,e9];congr 1;rw[decide_eq_decide];omega}
theorem bCy{c:DCore}(h:c.Regs.length<=9223372036854775806):qF c=some (M.coreOk c):=by unfold qF;simp only[aEa h,aOp,bEd,aHc,oB];have e4:decide (((c.Regs.length:Nat):Int)=4)=decide (c.Regs.length=4):=(by rw[decide_eq_decide];omega);rw[e4];simp only[M.coreOk,M.inR];generalize decide (c.Regs.length=4)=b0;generalize M.wordsOk c.Regs=b1;generalize(decide (0<=c.Pc)&&decide (c.Pc<=63))=b2;generalize(decide (0<=c.Vector)&&decide (c.Vector<=63))=b3;generalize(decide (0<=c.Saved)&&decide (c.Saved<=63))=b4;generalize(decide (0<=c.Bad)&&decide (c.Bad<=63))=b5;generalize(decide (-1<=c.Root)&&decide (c.Root<=7))=b6;generalize decide (0<=c.Cause)=b7;generalize decide (c.Cause<=4)=b8;generalize M.wordOk c.Timer=b9;cases b0<;>cases b2<;>cases b3<;>cases b4<;>cases b7<;>cases b1<;>cases b5<;>cases b6<;>cases b8<;>rfl
theorem bEo{c:DCore}(h:c.Regs.length<=9223372036854775806):mN c=some (M.coreOk c):=by unfold mN;rw[xK uV h (aCq c) (λk=>rfl)];simp only[M.coreOk,M.wordsOk];cases c.Regs.all M.wordOk;{simp[LO.val,JO.run]};{simp only[LO.val,JO.run,oB,aCz,cTq,e9,rB,uV];have e4:decide (((c.Regs.length:Nat):Int)=4)=decide (c.Regs.length=4):=(by rw[decide_eq_decide];omega);rw[e4];generalize decide (c.Regs.length=4)=b0;generalize M.inR 0 63 c.Pc=b2;generalize M.inR 0 63 c.Vector=b3;generalize M.inR 0 63 c.Saved=b4;generalize M.inR 0 63 c.Bad=b5;generalize M.inR (-1) 7 c.Root=b6;generalize M.inR 0 4 c.Cause=b7;generalize M.wordOk c.Timer=b9;cases b0<;>cases b2<;>cases b3<;>cases b4<;>cases b7<;>cases b5<;>cases b6<;>rfl}
structure SmallC (c : DCore) : Prop where
 regs:c.Regs.length<=1048576
structure SmallB (b : DBare) : Prop where
 c:SmallC b.C
 mem:b.Mem.length<=1048576
 i:b.In.length<=1048576
 o:b.Out.length<=1048576
theorem bSj{b:DBare}(h:SmallB b):pU b=some (M.bareOk b):=by have:=h.c.regs;have:=h.mem;have:=h.i;have:=h.o;unfold pU;simp only[bCy (show b.C.Regs.length<=9223372036854775806 by omega),bHx (show b.Mem.length<=9223372036854775806 by omega),aMo (show b.In.length<=9223372036854775806 by omega),aMo (show b.Out.length<=9223372036854775806 by omega),oB,M.bareOk];cases M.coreOk b.C<;>cases M.memOk b.Mem<;>cases M.rowOk b.In<;>rfl
theorem bVn{b:DBare}(h:SmallB b):uO b=some (M.bareOk b):=by have:=h.c.regs;have:=h.mem;have:=h.i;have:=h.o;unfold uO;simp only[bEo (show b.C.Regs.length<=9223372036854775806 by omega),bYj (show b.Mem.length<=9223372036854775806 by omega),aMq (show b.In.length<=9223372036854775806 by omega),aMq (show b.Out.length<=9223372036854775806 by omega),oB,M.bareOk];cases M.coreOk b.C<;>cases M.memOk b.Mem<;>cases M.rowOk b.In<;>rfl
noncomputable instance:DecidableEq DSlot:=λa b=>Classical.propDecidable (a=b)
noncomputable instance:DecidableEq DGuest:=λa b=>Classical.propDecidable (a=b)
noncomputable instance:DecidableEq DHost:=λa b=>Classical.propDecidable (a=b)
structure SmallG (g : DGuest) : Prop where
 c:SmallC g.C
 pages:g.Pages.length<=1048576
 i:g.In.length<=1048576
 o:g.Out.length<=1048576
structure SmallH (h : DHost) : Prop where
 words:h.Words.length<=1048576
 guests:h.Guests.length<=1048576
 all:∀g∈h.Guests,SmallG g
theorem bN{T:Type}[Inhabited T]{xs:List T}{k:Nat}(h:k<xs.length):xs.getD k default∈xs:=by rw[aQ h];exact List.getElem_mem _
namespace M
def noCore:DCore:=⟨[],0,0,0,0,false,0,0,0,false,false,false,false⟩
def noGuest:DGuest:=⟨false,noCore,[],[],[]⟩
def slotOk(s:DSlot):Bool:=bif decide (s.Frame=-1)then !s.Write&&!s.Dirty else decide (0<=s.Frame)&&decide (s.Frame<20)
noncomputable def guestOk (g:DGuest):Bool:=bif g.Live then coreOk g.C&&(decide (g.Pages.length=8)&&g.Pages.all slotOk)&&rowOk g.In&&rowOk g.Out else decide (g=noGuest)
def slots(gs:List DGuest):List DSlot:=gs.flatMap (·.Pages)
def many(ss:List DSlot)(f:Int):Nat:=ss.countP λs=>decide (s.Frame=f)
def alone(ss:List DSlot):Bool:=ss.all λs=>!s.Write||decide (many ss s.Frame<=1)
def bump(xs:List Int)(s:DSlot):List Int:=bif decide (s.Frame=-1)then xs else xs.set s.Frame.toNat (xs.getD s.Frame.toNat default+1)
def takers(ss:List DSlot):List Int:=ss.foldl bump (j0 20 0)
noncomputable def hostOk (h:DHost):Bool:=decide (h.Words.length=160)&&wordsOk h.Words&&(decide (h.Guests.length=3)&&h.Guests.all guestOk)&&alone (slots h.Guests)
end M
theorem bSo(s:DSlot):uJ s=some (M.slotOk s):=by unfold uJ M.slotOk;by_cases h:s.Frame=-1;{rw[dT h];cases s.Write<;>rfl};{rw[dF h];simp only[cFq];exact vQ}
theorem bRj{xs:List DSlot}(h:xs.length<=9223372036854775806):sW xs=some (decide (xs.length=8)&&xs.all M.slotOk):=by unfold sW;by_cases hl:xs.length=8;{have:decide (((xs.length:Nat):Int)=8)=true:=(by simp;omega);rw[this,bT,cFq,xK bSo h (aAw xs) (λk=>rfl),dT hl];cases xs.all M.slotOk<;>rfl};{have:decide (((xs.length:Nat):Int)=8)=false:=(by simp;omega);rw[this,dF hl];rfl}
theorem dbe{a b:Bool}(h:a=true↔b=true):a=b:=Bool.eq_iff_iff.2 h
theorem bKt(c:DCore):qX c=some (decide (c=M.noCore)):=by obtain⟨a1,a2,a3,a4,a5,a6,a7,a8,a9,a10,a11,a12,a13⟩:=c;unfold qX;simp only[];by_cases h2:a2=0;{by_cases h3:a3=0;{by_cases h4:a4=0;{by_cases h5:a5=0;{by_cases h1:a1=[];{by_cases h8:a8=0;{by_cases h7:a7=0;{by_cases h9:a9=0;{subst h1 h2 h3 h4 h5 h7 h8 h9;cases a6<;>cases a10<;>cases a11<;>cases a12<;>cases a13<;>simp[M.noCore]};{rw[dF (p:=DCore.mk _ _ _ _ _ _ _ _ _ _ _ _ _=M.noCore) (by simp[M.noCore,h9])];simp only[dF h9];cases a6<;>cases a10<;>cases a11<;>cases a12<;>simp}};{rw[dF (p:=DCore.mk _ _ _ _ _ _ _ _ _ _ _ _ _=M.noCore) (by simp[M.noCore,h7])];simp only[dF h7];cases a6<;>cases a10<;>cases a11<;>cases a12<;>simp}};{rw[dF (p:=DCore.mk _ _ _ _ _ _ _ _ _ _ _ _ _=M.noCore) (by simp[M.noCore,h8])];simp only[dF h8];cases a6<;>cases a10<;>cases a11<;>cases a12<;>simp}};{rw[dF (p:=DCore.mk _ _ _ _ _ _ _ _ _ _ _ _ _=M.noCore) (by simp[M.noCore,h1])];have:decide (((a1.length:Nat):Int)=0)=false:=(by simp[h1]);simp only[this];cases a6<;>cases a10<;>cases a11<;>cases a12<;>simp}};{rw[dF (p:=DCore.mk _ _ _ _ _ _ _ _ _ _ _ _ _=M.noCore) (by simp[M.noCore,h5])];simp only[dF h5];cases a6<;>cases a10<;>cases a11<;>cases a12<;>simp}};{rw[dF (p:=DCore.mk _ _ _ _ _ _ _ _ _ _ _ _ _=M.noCore) (by simp[M.noCore,h4])];simp only[dF h4];cases a6<;>cases a10<;>cases a11<;>cases a12<;>simp}};{rw[dF (p:=DCore.mk _ _ _ _ _ _ _ _ _ _ _ _ _=M.noCore) (by simp[M.noCore,h3])];simp only[dF h3];cases a6<;>cases a10<;>cases a11<;>cases a12<;>simp}};{rw[dF (p:=DCore.mk _ _ _ _ _ _ _ _ _ _ _ _ _=M.noCore) (by simp[M.noCore,h2])];simp only[dF h2];cases a6<;>cases a10<;>cases a11<;>cases a12<;>simp}
theorem bAy{g:DGuest}(hl:g.Live=false):nT g=some (decide (g=M.noGuest)):=by unfold nT;rw[bKt,oB];obtain⟨l,c,p,i,o⟩:=g;simp only at hl;subst hl;simp only[M.noGuest,DGuest.mk.injEq,true_and];by_cases h1:c=M.noCore<;>by_cases h2:p=[]<;>by_cases h3:i=[]<;>by_cases h4:o=[]<;>simp[h1,h2,h3,h4]
theorem cCw{g:DGuest}(hl:g.Live=false):qB g=some (decide (g=M.noGuest)):=by
 unfold qB;obtain⟨l,⟨a1,a2,a3,a4,a5,a6,a7,a8,a9,a10,a11,a12,a13⟩,p,i,o⟩:=g;simp only at hl;subst hl;simp only[bZn rfl,vQ];congr 1;apply dbe;simp only[bA,decide_eq_true_eq,u0,M.noGuest,M.noCore,DGuest.mk.injEq,DCore.mk.injEq,true_and,Int.natCast_eq_zero,List.length_eq_zero_iff];constructor
 · rintro⟨h1,h2,h3,h4,h5,h6,h7,h8,h9,h10,h11,h12,h13,h14,h15,h16⟩;exact⟨⟨h1,h2,h3,h4,h5,h6,h7,h8,h9,h10,h11,h12,h13⟩,h14,h15,h16⟩
 · rintro⟨⟨h1,h2,h3,h4,h5,h6,h7,h8,h9,h10,h11,h12,h13⟩,h14,h15,h16⟩;exact⟨h1,h2,h3,h4,h5,h6,h7,h8,h9,h10,h11,h12,h13,h14,h15,h16⟩
theorem bNh{g:DGuest}(h:SmallG g):oQ g=some (M.guestOk g):=by have:=h.c.regs;have:=h.pages;have:=h.i;have:=h.o;unfold oQ M.guestOk;(cases hl:g.Live with|false=>simp only[bF,cTq,bAy hl,oB,cFq]|true=>simp only[bT,cFq,cTq];rw[bCy (by omega),bRj (by omega),aMo (by omega),aMo (by omega)];simp only[oB];cases M.coreOk g.C<;>cases(decide (g.Pages.length=8)&&g.Pages.all M.slotOk)<;>cases M.rowOk g.In<;>rfl)
theorem bLq{gs:List DGuest}(hl:gs.length<=1048576)(h:∀g∈gs,SmallG g):qT gs=some (decide (gs.length=3)&&gs.all M.guestOk):=by
 unfold qT;by_cases hl:gs.length=3
 · have:decide (((gs.length:Nat):Int)=3)=true:=by simp;omega
   rw[this,bT,cFq,dT hl,f7]
   have key:=(vA (xs:=gs) (σ:=Unit) (step:=mT gs) (λ_ k=>k) M.guestOk (λ_ _=>()) (λ_=>JO.go ()) (.out false) (λ_ _=>True) (λi x s h1 h2 h3 h4=>by
    refine⟨?_,λ_=>trivial⟩;simp only[mT,dT h1,cTq];rw[aB ⟨by omega,h1⟩,iT,h3];show x4 (oQ x) _=_;rw[bNh (h x h2),oB,aD (by omega) (by omega)];cases M.guestOk x<;>rfl) (λs _=>by
    simp only[mT];rw[dF (by omega),cFq]) () trivial).1
   rw[key];cases gs.all M.guestOk<;>rfl
 {have:decide (((gs.length:Nat):Int)=3)=false:=(by simp;omega);rw[this,dF hl];rfl}
theorem xR{xs:List Int}{i j:Nat}{v:Int}(hi:i<xs.length):(xs.set i v).getD j default=if i=j then v else xs.getD j default:=by by_cases h:i=j;{subst h;simp[x8,hi]};{simp[x8,o9,h]}
theorem bBv{xs:List Int}{s:DSlot}:(M.bump xs s).length=xs.length:=by unfold M.bump;cases decide (s.Frame=-1)<;>simp
theorem lE{s:DSlot}(h:M.slotOk s=true):-1<=s.Frame/\s.Frame<20:=by unfold M.slotOk at h;by_cases e:s.Frame=-1;{omega};{rw[dF e,cFq,bA,decide_eq_true_eq,decide_eq_true_eq]at h;omega}
theorem bFf{xs:List Int}{s:DSlot}(hl:xs.length=20)(h:M.slotOk s=true){f:Nat}(hf:f<20):(M.bump xs s).getD f default=xs.getD f default+(if s.Frame=(f:Int)then 1 else 0):=by have hr:=lE h;unfold M.bump;by_cases e:s.Frame=-1;{rw[dT e,cTq,if_neg (by omega)];omega};{rw[dF e,cFq,xR (by omega)];by_cases e2:s.Frame=(f:Int);{rw[if_pos (by omega),if_pos e2];congr 2;omega};{rw[if_neg (by omega),if_neg e2];omega}}
theorem iY{s:DSlot}{ss:List DSlot}{f:Int}:M.many (s::ss) f=M.many ss f+(if s.Frame=f then 1 else 0):=by simp only[M.many,List.countP_cons,decide_eq_true_eq]
theorem aKl{f:Nat}(hf:f<20):∀{ss:List DSlot} {xs:List Int},xs.length=20->ss.all M.slotOk=true->(ss.foldl M.bump xs).length=20/\(ss.foldl M.bump xs).getD f default=xs.getD f default+(M.many ss f:Int)
 |[],xs,hl,_=>⟨hl,by simp[M.many]⟩
 |s::ss,xs,hl,h=>by rw[y4,bA]at h;obtain⟨h1,h2⟩:=aKl hf (ss:=ss) (xs:=M.bump xs s) (by rw[bBv,hl]) h.2;refine⟨h1,?_⟩;rw[qXV,h2,bFf hl h.1 hf,iY];split<;>simp<;>omega
theorem sX{ss:List DSlot}(h:ss.all M.slotOk=true):(M.takers ss).length=20:=(aKl (f:=0) (by omega) (xs:=j0 20 0) (by simp) h).1
theorem wF{ss:List DSlot}(h:ss.all M.slotOk=true){f:Nat}(hf:f<20):(M.takers ss).getD f default=(M.many ss f:Int):=by unfold M.takers;rw[(aKl (f:=f) hf (xs:=j0 20 0) (by simp) h).2];have:(j0 20 (0:Int)).getD f default=0:=(by rw[aQ (by rw[l6];omega),qXJ]);omega
theorem iV{g:DGuest}(h:M.guestOk g=true):g.Pages.all M.slotOk=true/\g.Pages.length<=8:=by unfold M.guestOk at h;(cases hl:g.Live with|true=>rw[hl,cTq]at h;simp only[bA,decide_eq_true_eq]at h;exact⟨h.1.1.2.2,by omega⟩|false=>rw[hl,cFq,decide_eq_true_eq]at h;rw[h];exact⟨rfl,by simp[M.noGuest]⟩)
theorem vL{gs:List DGuest}(h:gs.all M.guestOk=true):(M.slots gs).all M.slotOk=true:=by simp only[M.slots,List.all_flatMap,w5]at h ⊢;exact λg hg=>w5.1 (iV (h g hg)).1
structure Tl (B : Nat) (xs : List Int) : Prop where
 len:xs.length=20
 low:∀i,i<20->0<=xs.getD i default
 top:∀i,i<20->xs.getD i default<=(B:Int)
theorem Tl.mono{B C:Nat}{xs:List Int}(h:Tl B xs)(hB:B<=C):Tl C xs:=⟨h.len,h.low,λi hi=>by have:=h.top i hi;omega⟩
theorem Tl.bump{B:Nat}{xs:List Int}{s:DSlot}(h:Tl B xs)(hs:M.slotOk s=true):Tl (B+1) (M.bump xs s):=by refine⟨by rw[bBv,h.len],λi hi=>?_,λi hi=>?_⟩;all_goals rw[bFf h.len hs hi];have:=h.low i hi;have:=h.top i hi;split<;>omega
theorem Tl.zero:Tl 0 (j0 20 0):=by refine⟨by simp,λi hi=>?_,λi hi=>?_⟩;all_goals rw[aQ (by rw[l6];omega),qXJ];omega
theorem bYh{xs:List Int}{s:DSlot}{B:Nat}(hs:M.slotOk s=true)(ht:Tl B xs)(hB:B<=1000000000){Y:Type}:(cond (!decide (s.Frame=(-1:Int))) (grd ((0:Int)<=s.Frame/\s.Frame<((xs.length:Nat):Int)) (grd ((0:Int)<=s.Frame/\s.Frame<((xs.length:Nat):Int)) (some (JO.go (List.set xs (x7 s.Frame) (w64 ((x8 xs (x7 s.Frame) default)+(1:Int)))))))) (some (JO.go xs)):Option (JO (List Int) Y))=some (.go (M.bump xs s)):=by have hr:=lE hs;have hl:=ht.len;unfold M.bump;by_cases e:s.Frame=-1;{rw[dT e];rfl};{rw[dF e];have h1:=ht.low s.Frame.toNat (by omega);have h2:=ht.top s.Frame.toNat (by omega);rw[bF,cTq,cFq,aB ⟨by omega,by omega⟩,aB ⟨by omega,by omega⟩,aD (by omega) (by omega)]}
theorem aSj{gs:List DGuest}(hl:gs.length<=1048576)(h:gs.all M.guestOk=true):fZ gs=some (M.takers (M.slots gs)):=by
 have hin:∀(k:Nat) (g:DGuest) (xs:List Int) (h1:(k:Int)<(gs.length:Int)) (h2:g∈gs) (h3:gs.getD k default=g) (h4:Tl (8*k) xs),
  iter (gF gs (xs,(k:Int))) (xs,0)=some (.ret (.go (g.Pages.foldl M.bump xs)))/\Tl (8*k+g.Pages.length) (g.Pages.foldl M.bump xs):=by
  intro k g xs h1 h2 h3 h4;obtain⟨g1,g2⟩:=iV (w5.1 h g h2)
  exact pD (xs:=g.Pages) (step:=gF gs (xs,(k:Int))) (λs j=>(s,j)) M.bump (λs=> .go s) (λj s=>Tl (8*k+j) s) (λj x s a1 a2 a3 a4=>by
   refine⟨?_,a4.bump (w5.1 g1 x a2)⟩;simp only[gF,iT,h3,dT a1,cTq];rw[aB ⟨by omega,a1⟩,a3,bYh (w5.1 g1 x a2) a4 (by omega),oB];simp only[JO.run,vS];rw[aD (by omega) (by omega)]) (λs _=>by
   simp only[gF,iT,h3];rw[dF (by omega),cFq]) xs h4
 have key:=(pD (xs:=gs) (step:=jW gs) (λs j=>(s,j)) (λs g=>g.Pages.foldl M.bump s) (λs=> .go s) (λk s=>Tl (8*k) s) (λk g s a1 a2 a3 a4=>by
  obtain⟨b1,b2⟩:=hin k g s a1 a2 a3 a4;refine⟨?_,b2.mono (by have:=(iV (w5.1 h g a2)).2;omega)⟩;simp only[jW,dT a1,cTq];rw[aB ⟨by omega,a1⟩,b1];simp only[oB,LO.val,JO.run,vW];rw[aD (by omega) (by omega)]) (λs _=>by
  simp only[jW];rw[dF (by omega),cFq]) (j0 20 0) (Tl.zero.mono (by omega))).1
 unfold fZ;rw[show x7 (20:Int)=20 from rfl,key];simp only[oB,LO.val,JO.run,vV];rw[sY];rfl
theorem bXo{gs:List DGuest}(hl:gs.length<=1048576)(h:gs.all M.guestOk=true)(hwr:True):iU gs=some (M.alone (M.slots gs)):=by
 unfold iU;rw[aSj hl h,oB];have hs:=vL h
 have hin:∀(k:Nat) (g:DGuest) (h1:(k:Int)<(gs.length:Int)) (h2:g∈gs) (h3:gs.getD k default=g),
  iter (eK gs (M.takers (M.slots gs)) (k:Int)) 0=some (.ret (bif g.Pages.all (λs=>!s.Write||decide (M.many (M.slots gs) s.Frame<=1))then .go ()else .out (.ret (.out false)))):=by
  intro k g h1 h2 h3;obtain⟨g1,g2⟩:=iV (w5.1 h g h2)
  exact(vA (xs:=g.Pages) (σ:=Unit) (step:=eK gs (M.takers (M.slots gs)) (k:Int)) (λ_ j=>j) _ (λ_ _=>()) (λ_=>JO.go ()) _ (λ_ _=>True) (λj x s a1 a2 a3 _=>by
   refine⟨?_,λ_=>trivial⟩;have hx:=w5.1 g1 x a2;have hr:=lE hx;simp only[eK,iT,h3,dT a1,cTq,a3];rw[aB ⟨by omega,a1⟩];cases hw:x.Write with
   |false=>simp only[cFq,oB,JO.run,lH,bF,Bool.true_or,cTq];rw[aD (by omega) (by omega)]
   |true=>
    have hf:x.Frame≠-1:=λe=>by unfold M.slotOk at hx;rw[dT e,hw]at hx;simp at hx
    have hlt:=sX hs;simp only[cTq];rw[aB ⟨by omega,by omega⟩,wF hs (by omega),show((x.Frame.toNat:Nat):Int)=x.Frame by omega];by_cases e:M.many (M.slots gs) x.Frame<=1;{rw[dF (by omega),dT e];simp only[cFq,oB,JO.run,lH,bT,qQU,cTq];rw[aD (by omega) (by omega)]}
    · rw[dT (by omega),dF e];rfl) (λs _=>by
   simp only[eK,iT,h3];rw[dF (by omega),cFq]) () trivial).1
 have key:=(vA (xs:=gs) (σ:=Unit) (step:=gH gs (M.takers (M.slots gs))) (λ_ j=>j) (λg=>g.Pages.all (λs=>!s.Write||decide (M.many (M.slots gs) s.Frame<=1))) (λ_ _=>()) (λ_=>JO.go ()) (.out false) (λ_ _=>True) (λk g s a1 a2 a3 _=>by
  refine⟨?_,λ_=>trivial⟩;simp only[gH,dT a1,cTq];rw[aB ⟨by omega,a1⟩,hin k g a1 a2 a3];cases g.Pages.all (λs=>!s.Write||decide (M.many (M.slots gs) s.Frame<=1))with
  |false=>rfl
  |true=>simp only[cTq,oB,LO.val,JO.run,qQ];rw[aD (by omega) (by omega)]) (λs _=>by
  simp only[gH];rw[dF (by omega),cFq]) () trivial).1
 rw[key]
 have e:M.alone (M.slots gs)=gs.all (λg=>g.Pages.all (λs=>!s.Write||decide (M.many (M.slots gs) s.Frame<=1))):=by
  simp only[M.alone]
  conv=>lhs;arg 1;unfold M.slots
  rw[List.all_flatMap]
 rw[e];cases gs.all (λg=>g.Pages.all (λs=>!s.Write||decide (M.many (M.slots gs) s.Frame<=1)))<;>rfl
theorem bDt{h:DHost}(hs:SmallH h):mP h=some (M.hostOk h):=by have:=hs.words;unfold mP M.hostOk;by_cases hl:h.Words.length=160;{rw[show decide (((h.Words.length:Nat):Int)=160)=true by simp;omega,cTq,aEa (by omega),dT hl,oB];(cases M.wordsOk h.Words with|false=>rfl|true=>rw[cTq,bLq hs.guests hs.all,oB];(cases hg:(decide (h.Guests.length=3)&&h.Guests.all M.guestOk)with|false=>rfl|true=>rw[bA]at hg;rw[cTq,bXo hs.guests hg.2 trivial];rfl))};{rw[show decide (((h.Words.length:Nat):Int)=160)=false by simp;omega,dF hl];rfl}
theorem bRy{xs:List Int}{n:Int}(h:xs.length<=9223372036854775806):dZ xs n=some (decide ((xs.length:Int)<=n)&&M.wordsOk xs):=by unfold dZ;rw[xK uV h (tK xs) (λk=>rfl)];simp only[M.wordsOk];cases xs.all M.wordOk;{simp[LO.val,JO.run]};{simp only[LO.val,JO.run,oB,tT,cTq,e9]}
namespace M
def bumpW(ws:List Bool)(s:DSlot):List Bool:=bif decide (s.Frame=-1)then ws else ws.set s.Frame.toNat (ws.getD s.Frame.toNat default||s.Write)
def bump2(p:List Int×List Bool)(s:DSlot):List Int×List Bool:=(bump p.1 s,bumpW p.2 s)
end M
theorem bSr{xs:List Bool}{i j:Nat}{v:Bool}(hi:i<xs.length):(xs.set i v).getD j default=if i=j then v else xs.getD j default:=by by_cases h:i=j;{subst h;simp[x8,hi]};{simp[x8,o9,h]}
theorem aYw{xs:List Bool}{s:DSlot}:(M.bumpW xs s).length=xs.length:=by unfold M.bumpW;cases decide (s.Frame=-1)<;>simp
theorem bNf{xs:List Bool}{s:DSlot}(hl:xs.length=20)(h:M.slotOk s=true){f:Nat}(hf:f<20):(M.bumpW xs s).getD f default=(xs.getD f default||(decide (s.Frame=(f:Int))&&s.Write)):=by have hr:=lE h;unfold M.bumpW;by_cases e:s.Frame=-1;{rw[dT e,cTq,dF (by omega)];simp};{rw[dF e,cFq,bSr (by omega)];by_cases e2:s.Frame=(f:Int);{rw[if_pos (by omega),dT e2,f7];congr 2;omega};{rw[if_neg (by omega),dF e2];simp}}
theorem aYd:∀{ss:List DSlot} {p:List Int×List Bool},(ss.foldl M.bump2 p).1=ss.foldl M.bump p.1
 |[],_=>rfl
 |s::ss,p=>by rw[qXV,aYd];rfl
theorem aXs{f:Nat}(hf:f<20):∀{ss:List DSlot} {p:List Int×List Bool},p.2.length=20->ss.all M.slotOk=true->(ss.foldl M.bump2 p).2.length=20/\(ss.foldl M.bump2 p).2.getD f default=(p.2.getD f default||ss.any λs=>decide (s.Frame=(f:Int))&&s.Write)
 |[],p,hl,_=>⟨hl,by simp⟩
 |s::ss,p,hl,h=>by rw[y4,bA]at h;obtain⟨h1,h2⟩:=aXs hf (ss:=ss) (p:=M.bump2 p s) (by simpa[M.bump2,aYw]using hl) h.2;refine⟨h1,?_⟩;rw[qXV,h2,List.any_cons];simp only[M.bump2];rw[bNf hl h.1 hf,Bool.or_assoc]
structure Tw (B : Nat) (p : List Int × List Bool) : Prop where
 tl:Tl B p.1
 len:p.2.length=20
theorem Tw.bump{B:Nat}{p:List Int×List Bool}{s:DSlot}(h:Tw B p)(hs:M.slotOk s=true):Tw (B+1) (M.bump2 p s):=⟨h.tl.bump hs,by simp[M.bump2,aYw,h.len]⟩
theorem bIf{h:DHost}{k:Nat}{g:DGuest}{p:List Int×List Bool}{B:Nat}(hl:g.Pages.length<=8)(h3:h.Guests.getD k default=g)(ht:Tw B p)(hB:B<=1000000):
 iter (kV h (p.1,p.2,(k:Int))) (p.1,p.2,0)=some (.ret (bif g.Pages.all M.slotOk then .go ((g.Pages.foldl M.bump2 p).1,(g.Pages.foldl M.bump2 p).2)else .out (.ret (.out false))))/\(g.Pages.all M.slotOk=true->Tw (B+g.Pages.length) (g.Pages.foldl M.bump2 p)):=by
 exact vA (xs:=g.Pages) (step:=kV h (p.1,p.2,(k:Int))) (λs j=>(s.1,s.2,j)) M.slotOk M.bump2 (λs=> .go (s.1,s.2)) (.out (.ret (.out false))) (λj s=>Tw (B+j) s) (λj x s a1 a2 a3 a4=>by
  refine⟨?_,λhx=>a4.bump hx⟩;simp only[kV,iT,h3,dT a1,cTq,a3];rw[aB ⟨by omega,a1⟩,rB,oB];have hgo:M.slotOk x=true->tU h (p.1,p.2,(k:Int)) (s.1,s.2,(j:Int)) ()=some (.go ((M.bump2 s x).2,(M.bump2 s x).1)):=λhx=>by have hr:=lE hx;have hl1:=a4.tl.len;have hl2:=a4.len;simp only[tU,iT,h3,a3,M.bump2,M.bump,M.bumpW];by_cases e:x.Frame=-1;{rw[dF (p:=(0:Int)<=x.Frame) (by omega),dT e];rfl};{have q1:=a4.tl.low x.Frame.toNat (by omega);have q2:=a4.tl.top x.Frame.toNat (by omega);rw[dT (p:=(0:Int)<=x.Frame) (by omega),dF e];simp only[cTq,cFq];rw[aB ⟨by omega,by omega⟩,aB ⟨by omega,by omega⟩,aB ⟨by omega,by omega⟩,aD (by omega) (by omega)];(cases hw:s.2.getD x.Frame.toNat default with|true=>rw[cTq,aB ⟨by omega,by omega⟩,Bool.true_or]|false=>rw[cFq,aB ⟨by omega,by omega⟩,qQU])}
  by_cases e:x.Frame=-1;{have hin:M.inR (-1) 19 x.Frame=true:=(by rw[M.inR_iff];omega);rw[hin,bT,cFq,dT e,cTq];(cases hw:x.Write with|true=>have:M.slotOk x=false:=(by unfold M.slotOk;rw[dT e,hw];rfl);rw[this];rfl|false=>(cases hd:x.Dirty with|true=>have:M.slotOk x=false:=(by unfold M.slotOk;rw[dT e,hw,hd];rfl);rw[this];rfl|false=>have hx:M.slotOk x=true:=(by unfold M.slotOk;rw[dT e,hw,hd];rfl);rw[hx];simp only[cFq,oB,JO.run,hgo hx,tV,cTq];rw[aD (by omega) (by omega)]))}
  · by_cases hin:M.inR (-1) 19 x.Frame=true
    {have hr:=M.inR_iff.1 hin;have hx:M.slotOk x=true:=(by unfold M.slotOk;rw[dF e,cFq,bA,decide_eq_true_eq,decide_eq_true_eq];omega);rw[hin,bT,cFq,dF e,cFq,hx];simp only[oB,JO.run,hgo hx,tV,cTq];rw[aD (by omega) (by omega)]}
    · have hn:¬(-1<=x.Frame/\x.Frame<=19):=λc=>hin (M.inR_iff.2 c);have hx:M.slotOk x=false:=(by(cases hh:M.slotOk x with|false=>rfl|true=>have:=lE hh;omega));rw[Bool.eq_false_iff.2 hin,hx];rfl) (λs _=>by
  simp only[kV,iT,h3];rw[dF (by omega),cFq]) p ht
theorem bSq{h:DHost}(hs:SmallH h)(hl:h.Guests.length=3):
 iter (mE h) (j0 20 0,j0 20 false,0)=some (.ret (bif h.Guests.all M.guestOk then .go (((M.slots h.Guests).foldl M.bump2 (j0 20 0,j0 20 false)).1,((M.slots h.Guests).foldl M.bump2 (j0 20 0,j0 20 false)).2)else .out false)):=by
 have key:=(vA (xs:=h.Guests) (step:=mE h) (λ(s:List Int×List Bool) j=>(s.1,s.2,j)) M.guestOk (λs g=>g.Pages.foldl M.bump2 s) (λs=>JO.go (s.1,s.2)) (.out false) (λj s=>Tw (8*j) s) (λk g s a1 a2 a3 a4=>by
  have hg:=hs.all g a2;have:=hg.c.regs;have:=hg.pages;have:=hg.i;have:=hg.o;refine⟨?_,λhx=>?_⟩;{simp only[mE,iT,dT a1,cTq,a3];rw[aB ⟨by omega,a1⟩];(cases hlv:g.Live with|false=>have e:qB (DGuest.mk false (DCore.mk g.C.Regs g.C.Pc g.C.Root g.C.Vector g.C.Saved g.C.SavedUser g.C.Cause g.C.Bad g.C.Timer g.C.Waits g.C.User g.C.On g.C.Stopped) g.Pages g.In g.Out)=some (decide (g=M.noGuest)):=(by have:=cCw hlv;obtain⟨l,c,p,i,o⟩:=g;simp only at hlv;subst hlv;exact this);rw[bF,cTq,e,oB];have e2:M.guestOk g=decide (g=M.noGuest):=(by unfold M.guestOk;rw[hlv];rfl);rw[e2];by_cases hz:g=M.noGuest;{rw[dT hz,hz];simp only[bT,cFq,oB,JO.run,uY,cTq,M.noGuest,List.foldl_nil];rw[aD (by omega) (by omega)]};{rw[dF hz];rfl}|true=>rw[bT,cFq];have e2:M.guestOk g=(M.coreOk g.C&&(decide (g.Pages.length=8)&&g.Pages.all M.slotOk)&&M.rowOk g.In&&M.rowOk g.Out):=(by unfold M.guestOk;rw[hlv];rfl);show x4 (x4 (mN g.C) _) _=_;rw[bEo (by omega),oB,e2];(cases hc:M.coreOk g.C with|false=>rfl|true=>rw[bT,cFq,f7];by_cases hp:g.Pages.length=8;{rw[dT hp,show decide (((g.Pages.length:Nat):Int)=8)=true by simp;omega,bT,cFq,aMq (by omega),oB,aMq (by omega)];(cases hri:M.rowOk g.In with|false=>simp[JO.run]|true=>rw[bT,cFq,oB];(cases hro:M.rowOk g.Out with|false=>simp[JO.run]|true=>rw[bT,cFq,(bIf (by omega) a3 a4 (by omega)).1];(cases hpp:g.Pages.all M.slotOk with|false=>rfl|true=>simp only[cTq,oB,LO.val,JO.run,uY,Bool.and_self];rw[aD (by omega) (by omega)])))};{rw[dF hp,show decide (((g.Pages.length:Nat):Int)=8)=false by simp;omega];rfl}))}
  · obtain⟨q1,q2⟩:=iV hx;have:=(bIf q2 a3 a4 (by omega)).2 q1;exact⟨this.tl.mono (by omega),this.len⟩) (λs _=>by
  simp only[mE];rw[dF (by omega),cFq]) (j0 20 0,j0 20 false) ⟨Tl.zero.mono (by omega),by simp⟩).1
 rw[sY]at key;exact key
theorem bWz{ss:List DSlot}(h:ss.all M.slotOk=true):((u7 20).all λf=>!(decide (1<M.many ss (f:Int))&&ss.any λs=>decide (s.Frame=(f:Int))&&s.Write))=M.alone ss:=by
 apply dbe;simp only[M.alone,w5,f8,u0,Bool.and_eq_false_iff,decide_eq_false_iff_not,List.any_eq_false,bA,decide_eq_true_eq,r9,not_and];constructor
 · intro q s hs
   cases hw:s.Write with
   |false=>exact .inl rfl
   |true=>
    have hx:=w5.1 h s hs;have hr:=lE hx;have hf:s.Frame≠-1:=λe=>by unfold M.slotOk at hx;rw[dT e,hw]at hx;simp at hx
    rcases q s.Frame.toNat (by omega)with q|q;{rw[show((s.Frame.toNat:Nat):Int)=s.Frame by omega]at q;exact .inr (by omega)};{exact absurd hw (by simpa using q s hs (by omega))}
 {intro q f hf;by_cases hm:1<M.many ss (f:Int);{refine .inr λs hs e=>?_;rcases q s hs with q|q;{simp[q]};{rw[e]at q;omega}};{exact .inl hm}}
theorem aGz{h:DHost}(hs:SmallH h):kC h=some (M.hostOk h):=by
 have:=hs.words;unfold kC M.hostOk;rw[bRy (by omega),oB];by_cases hl:h.Words.length=160
 · rw[dT (p:=(h.Words.length:Int)<=160) (by omega),dT hl]
   cases M.wordsOk h.Words with
   |false=>rfl
   |true=>
    rw[f7,bT,cFq,dT (p:=((h.Words.length:Nat):Int)=160) (by omega),bT,cFq];by_cases hg:h.Guests.length=3
    · rw[dT hg,dT (p:=((h.Guests.length:Nat):Int)=3) (by omega),bT,cFq]
      rw[show x7 (20:Int)=20 from rfl,bSq hs hg];cases ha:h.Guests.all M.guestOk with
      |false=>rfl
      |true=>
       have hsl:=vL ha;simp only[cTq,oB,LO.val,JO.run,aCn,f7];rw[aYd]
       have key:=aYh (n:=20) (step:=pG ((M.slots h.Guests).foldl M.bump (j0 20 0),((M.slots h.Guests).foldl M.bump2 (j0 20 0,j0 20 false)).2)) (λk=>k) (λf=>!(decide (1<M.many (M.slots h.Guests) (f:Int))&&(M.slots h.Guests).any λs=>decide (s.Frame=(f:Int))&&s.Write)) (JO.go ()) (.out false) (λi hi=>by
        have q1:=wF hsl hi;have q2:=sX hsl;obtain⟨q3,q4⟩:=aXs hi (p:=(j0 20 0,j0 20 false)) (by simp) hsl;unfold M.takers at q1 q2;simp only[pG,iT];have e0:decide ((1:Int)<(List.foldl M.bump (j0 20 0) (M.slots h.Guests)).getD i default)=decide (1<M.many (M.slots h.Guests) (i:Int)):=(by rw[decide_eq_decide,q1];omega);rw[dT (p:=(i:Int)<20) (by omega),cTq,aB ⟨by omega,by omega⟩,e0,q4];rw[show(j0 20 false).getD i default=false by rw[aQ (by rw[l6];omega),qXJ],qQU];by_cases e:1<M.many (M.slots h.Guests) (i:Int)
        · rw[dT e,cTq,aB ⟨by omega,by omega⟩]
          cases(M.slots h.Guests).any λs=>decide (s.Frame=(i:Int))&&s.Write with
          |true=>rfl
          |false=>simp only[cFq,oB,JO.run,vD,Bool.and_false,bF,cTq];rw[aD (by omega) (by omega)]
        · rw[dF e];simp only[cFq,oB,JO.run,vD,Bool.false_and,bF,cTq];rw[aD (by omega) (by omega)]) (by
        simp only[pG];rfl)
       rw[key,bWz hsl];cases M.alone (M.slots h.Guests)<;>rfl
    {rw[dF hg,dF (p:=((h.Guests.length:Nat):Int)=3) (by omega)];rfl}
 {rw[dF hl,dF (p:=((h.Words.length:Nat):Int)=160) (by omega)];cases(decide ((h.Words.length:Int)<=160)&&M.wordsOk h.Words)<;>rfl}
structure HOk (h : DHost) : Prop where
 len:h.Words.length=160
 words:M.wordsOk h.Words=true
 three:h.Guests.length=3
 all:h.Guests.all M.guestOk=true
 alone:M.alone (M.slots h.Guests)=true
theorem cV{h:DHost}:M.hostOk h=true↔HOk h:=by unfold M.hostOk;simp only[bA,decide_eq_true_eq];exact⟨λ⟨⟨⟨a,b⟩,c,d⟩,e⟩=>⟨a,b,c,d,e⟩,λh=>⟨⟨⟨h.len,h.words⟩,h.three,h.all⟩,h.alone⟩⟩
namespace M
def freeStep(ss:List DSlot)(s:List Int)(i:Nat):List Int:=bif decide (many ss (i:Int)=0)then s++[(i:Int)]else s
def free(ss:List DSlot):List Int:=(u7 20).foldl (freeStep ss) []
noncomputable def hostFree (h:DHost):List Int:=bif hostOk h then free (slots h.Guests)else[]
end M
theorem yE{ss:List DSlot}:M.free ss=((u7 20).filter λ(i:Nat)=>decide (M.many ss (i:Int)=0)).map λ(i:Nat)=>(i:Int):=by
 have e:∀(xs:List Nat) (s:List Int),xs.foldl (M.freeStep ss) s=s++(xs.filter λ(i:Nat)=>decide (M.many ss (i:Int)=0)).map λ(i:Nat)=>(i:Int):=by
  intro xs;induction xs with
  |nil=>intro s;simp
  |cons x xs ih=>intro s;rw[qXV,ih,List.filter_cons];unfold M.freeStep;cases decide (M.many ss (x:Int)=0)<;>simp
 unfold M.free;rw[e];simp
theorem aJz{ss:List DSlot}{s:List Int}{i n:Nat}(h:s.length<=n):(M.freeStep ss s i).length<=n+1:=by unfold M.freeStep;cases decide (M.many ss (i:Int)=0)<;>simp<;>omega
theorem bTe{ss:List DSlot}:(M.free ss).length<=20:=by rw[yE,List.length_map];have:=List.length_filter_le (λ(i:Nat)=>decide (M.many ss (i:Int)=0)) (u7 20);simpa using this
theorem bYv{h:DHost}(h3:h.Guests.length=3)(hall:h.Guests.all M.guestOk=true):mO h=some (M.takers (M.slots h.Guests)):=by
 have hin:∀(k:Nat) (g:DGuest) (xs:List Int) (h1:(k:Int)<(h.Guests.length:Int)) (h2:g∈h.Guests) (h3:h.Guests.getD k default=g) (h4:Tl (8*k) xs),
  iter (lU h (xs,(k:Int))) (xs,0)=some (.ret (.go (g.Pages.foldl M.bump xs)))/\Tl (8*k+g.Pages.length) (g.Pages.foldl M.bump xs):=by
  intro k g xs h1 h2 h3 h4;obtain⟨g1,g2⟩:=iV (w5.1 hall g h2)
  exact pD (xs:=g.Pages) (step:=lU h (xs,(k:Int))) (λs j=>(s,j)) M.bump (λs=> .go s) (λj s=>Tl (8*k+j) s) (λj x s a1 a2 a3 a4=>by
   have hx:=w5.1 g1 x a2;have hr:=lE hx;have hl:=a4.len;refine⟨?_,a4.bump hx⟩;simp only[lU,iT,h3,dT a1,cTq];rw[aB ⟨by omega,h1⟩,aB ⟨by omega,h1⟩,aB ⟨by omega,a1⟩,a3];unfold M.bump;by_cases e:x.Frame=-1;{rw[dF (p:=(0:Int)<=x.Frame) (by omega),dT e];simp only[cTq,cFq,oB,JO.run,vH];rw[aD (by omega) (by omega)]}
   · have q1:=a4.low x.Frame.toNat (by omega);have q2:=a4.top x.Frame.toNat (by omega);rw[dT (p:=(0:Int)<=x.Frame) (by omega),dF e,cTq,aB ⟨by omega,by omega⟩,aB ⟨by omega,by omega⟩,aD (by omega) (by omega)];simp only[cTq,cFq,oB,JO.run,vH];rw[aD (by omega) (by omega)]) (λs _=>by
   simp only[lU,iT,h3];rw[aB ⟨by omega,h1⟩,dF (by omega),cFq]) xs h4
 have key:=(pD (xs:=h.Guests) (step:=pK h) (λs j=>(s,j)) (λs g=>g.Pages.foldl M.bump s) (λs=> .go s) (λk s=>Tl (8*k) s) (λk g s a1 a2 a3 a4=>by
  obtain⟨b1,b2⟩:=hin k g s a1 a2 a3 a4;refine⟨?_,b2.mono (by have:=(iV (w5.1 hall g a2)).2;omega)⟩;simp only[pK,dT a1,cTq];rw[b1];simp only[oB,LO.val,JO.run,aDd];rw[aD (by omega) (by omega)]) (λs _=>by
  simp only[pK];rw[dF (by omega),cFq]) (j0 20 0) (Tl.zero.mono (by omega))).1
 unfold mO;rw[show x7 (20:Int)=20 from rfl,key];simp only[oB,LO.val,JO.run,aCi];rw[sY];rfl
theorem bQy{h:DHost}(hs:SmallH h)(hk:HOk h):mO h=some (M.takers (M.slots h.Guests)):=bYv hk.three hk.all
theorem aYf{ss:List DSlot}(hss:ss.all M.slotOk=true){i:Nat}(hi:i<20){s:List Int}(hl:s.length<=i){Y:Type}:
 (grd ((0:Int)<=(i:Int)/\(i:Int)<((x9 (M.takers ss):Nat):Int)) (cond (decide ((x8 (M.takers ss) i default)=(0:Int))) (grd ((x9 s+x9 ([(i:Int)]:List Int))*8<=2^47/\x9 s+x9 ([(i:Int)]:List Int)<=2^47) (some (JO.go (s++([(i:Int)]:List Int))))) (some (JO.go s))):Option (JO (List Int) Y))=some (.go (M.freeStep ss s i)):=by
 have hl2:=sX hss;have e0:decide ((M.takers ss).getD i default=0)=decide (M.many ss (i:Int)=0):=(by rw[decide_eq_decide,wF hss hi];omega);rw[aB ⟨by omega,by omega⟩,e0];unfold M.freeStep;(cases decide (M.many ss (i:Int)=0)with|true=>rw[cTq,cTq,aB ⟨by simp;omega,by simp;omega⟩]|false=>rfl)
theorem bDs{gs:List DGuest}(hl:gs.length<=1048576)(h:gs.all M.guestOk=true):nS gs=some (M.free (M.slots gs)):=by
 have hss:=vL h;have hl2:=sX hss;unfold nS;rw[aSj hl h,oB]
 have key:=(aBk (n:=20) (step:=lC (M.takers (M.slots gs))) (λs j=>(s,j)) (M.freeStep (M.slots gs)) (λs=>JO.go s) (λi s=>s.length<=i) (λi s hi hs=>by
  refine⟨?_,aJz hs⟩;simp only[lC,iT];rw[dT (p:=(i:Int)<_) (by omega),cTq,aYf hss hi hs,oB];simp only[JO.run,wQ];rw[aD (by omega) (by omega)]) (λs _=>by
  simp only[lC];rw[dF (by omega),cFq]) [] (by simp)).1
 rw[key];rfl
theorem aIi{h:DHost}(hs:SmallH h):jQ h=some (M.hostFree h):=by
 unfold jQ M.hostFree;rw[aGz hs,oB];cases hh:M.hostOk h with
 |false=>rfl
 |true=>
  have hk:=cV.1 hh;have hss:=vL hk.all;rw[bT,cFq,bQy hs hk,oB]
  have key:=(aBk (n:=20) (step:=mS (M.takers (M.slots h.Guests))) (λs j=>(s,j)) (M.freeStep (M.slots h.Guests)) (λs=>JO.go s) (λi s=>s.length<=i) (λi s hi hs=>by
   refine⟨?_,aJz hs⟩;simp only[mS,iT];rw[dT (p:=(i:Int)<20) (by omega),cTq,aYf hss hi hs,oB];simp only[JO.run,zN];rw[aD (by omega) (by omega)]) (λs _=>by
   simp only[mS];rfl) [] (by simp)).1
  rw[key];rfl
namespace M
noncomputable def there (h:DHost)(g:Int):Bool:=hostOk h&&(inR 0 2 g&&(h.Guests.getD g.toNat default).Live)
end M
theorem eD{h:DHost}{g:Int}:M.there h g=true↔HOk h/\0<=g/\g<=2/\(h.Guests.getD g.toNat default).Live=true:=by unfold M.there;rw[bA,bA,cV,M.inR_iff];exact⟨λ⟨a,⟨b,c⟩,d⟩=>⟨a,b,c,d⟩,λ⟨a,b,c,d⟩=>⟨a,⟨b,c⟩,d⟩⟩
theorem bNt{gs:List DGuest}{g:Int}(h3:gs.length=3):sZ gs g=some (M.inR 0 2 g&&(gs.getD g.toNat default).Live):=by unfold sZ M.inR;by_cases h0:0<=g;{by_cases h1:g<3;{rw[dT h0,dT h1,dT (p:=g<=2) (by omega),cTq,cTq,aB ⟨h0,by omega⟩];rfl};{rw[dT h0,dF h1,dF (p:=g<=2) (by omega)];rfl}};{rw[dF h0];rfl}
theorem lG{h:DHost}{g:Int}(hs:SmallH h):cJ h g=some (M.there h g):=by unfold cJ M.there;rw[bDt hs,oB];(cases hh:M.hostOk h with|false=>rfl|true=>have hk:=cV.1 hh;rw[cTq,bNt hk.three];rfl)
theorem wE{h:DHost}{g:Int}(hs:SmallH h):dG h g=some (M.there h g):=by unfold dG M.there;rw[aGz hs,oB];(cases hh:M.hostOk h with|false=>rfl|true=>have hk:=cV.1 hh;have:=hk.three;rw[cTq,f7,rB,oB];(cases hi:M.inR 0 2 g with|false=>rfl|true=>have:=M.inR_iff.1 hi;rw[cTq,f7,aB ⟨by omega,by omega⟩]))
theorem aRk{T:Type}{xs ys:List T}(h:xs.length=ys.length):over xs 0 xs.length ys=ys:=by simp only[over,h,Nat.min_self,List.take_length,Nat.zero_add,List.take_zero,List.nil_append];rw[List.drop_eq_nil_of_le (by omega),List.append_nil]
theorem dC{xs:List Int}(h:xs.length<=1048576):cM xs=some xs:=by unfold cM;rw[aB ⟨by omega,by omega,by omega⟩,aRk (by simp)]
theorem bCe{c:DCore}(h:SmallC c):kK c=some c:=by have:=h.regs;unfold kK;rw[aB ⟨by simp;omega,by simp;omega⟩];rfl
theorem rO{xs ys:List Int}{o k a:Nat}(hk:ys.length=k)(ho:o+k<=xs.length):(over xs o k ys).getD a default=if a<o then xs.getD a default else if a<o+k then ys.getD (a-o) default else xs.getD a default:=by simp only[over,hk,Nat.min_self,x6];rw[qQX (l:=ys) (i:=k) (by omega)];by_cases h1:a<o;{rw[if_pos h1,e7 (by simp;omega),List.getElem?_take_of_lt h1]};{rw[if_neg h1,d9 (by simp;omega)];have e:(xs.take o).length=o:=(by simp;omega);rw[e];by_cases h2:a<o+k;{rw[if_pos h2,e7 (by omega)]};{rw[if_neg h2,d9 (by omega),List.getElem?_drop];congr 2;omega}}
theorem jK{xs ys:List Int}{o k:Nat}(ho:o+k<=xs.length):(over xs o k ys).length=xs.length:=aKx ho
theorem fB{xs ys:List Int}{n:Nat}(h1:xs.length=n)(h2:ys.length=n)(h:∀a,a<n->xs.getD a default=ys.getD a default):xs=ys:=by apply List.ext_getElem (by omega);intro i q1 q2;have:=h i (by omega);rwa[aQ q1,aQ q2]at this
theorem kA{xs:List Int}{o a:Nat}(ha:a<8):((xs.drop o).take 8).getD a default=xs.getD (o+a) default:=by simp only[x6];rw[List.getElem?_take_of_lt ha,List.getElem?_drop]
theorem kE{xs:List Int}{o:Nat}(h:o+8<=xs.length):((xs.drop o).take 8).length=8:=by simp;omega
namespace M
def word(ws:List Int)(ps:List DSlot)(a:Nat):Int:=if(ps.getD (a/8) default).Frame<0 then 0 else ws.getD ((ps.getD (a/8) default).Frame.toNat*8+a%8) default
def mem(ws:List Int)(ps:List DSlot):List Int:=(u7 64).map (word ws ps)
def page(ws:List Int)(f:Nat):List Int:=(ws.drop (f*8)).take 8
noncomputable def hostView (h:DHost)(g:Int):DBare×Bool:=bif there h g then(⟨(h.Guests.getD g.toNat default).C,mem h.Words (h.Guests.getD g.toNat default).Pages,(h.Guests.getD g.toNat default).In,(h.Guests.getD g.toNat default).Out⟩,true)else(⟨noCore,[],[],[]⟩,false)
end M
theorem cP{ws:List Int}{ps:List DSlot}:(M.mem ws ps).length=64:=by simp[M.mem]
theorem eM{ws:List Int}{ps:List DSlot}{a:Nat}(ha:a<64):(M.mem ws ps).getD a default=M.word ws ps a:=by rw[aQ (by rw[cP];exact ha)];simp[M.mem]
theorem bAc{xs:List Int}{f:Int}(h0:0<=f)(h1:f*8+8<=xs.length)(h2:f<=1000000):mR xs f=some (M.page xs f.toNat):=by unfold mR M.page;rw[aD (z:=f*8) (by omega) (by omega),aD (z:=f+1) (by omega) (by omega),aD (z:=(f+1)*8) (by omega) (by omega),aB ⟨by omega,by omega,by omega⟩];rw[show x7 ((f+1)*8)-x7 (f*8)=8 by omega,show x7 (f*8)=f.toNat*8 by omega]
theorem aQf{xs:List Int}{f:Int}(h0:0<=f)(h1:f*8+8<=xs.length)(h2:f<=1000000):gL xs f=some (xs,(f.toNat*8,8)):=by unfold gL;rw[aD (z:=f*8) (by omega) (by omega),aD (z:=f+1) (by omega) (by omega),aD (z:=(f+1)*8) (by omega) (by omega),aB ⟨by omega,by omega,by omega⟩];rw[show x7 ((f+1)*8)-x7 (f*8)=8 by omega,show x7 (f*8)=f.toNat*8 by omega]
theorem aLy{ps:List DSlot}(hp:ps.all M.slotOk=true){i:Nat}(hi:i<ps.length):-1<=(ps.getD i default).Frame/\(ps.getD i default).Frame<20:=lE (w5.1 hp _ (bN hi))
theorem bQv{ws:List Int}{ps:List DSlot}(hw:ws.length=160)(hl:ps.length=8)(hp:ps.all M.slotOk=true):lL ws ps=some (M.mem ws ps):=by
 unfold lL
 obtain⟨key,k2⟩:=aBk (n:=8) (step:=kS ws ps) (λs j=>(s,j)) (λs i=>bif decide ((ps.getD i default).Frame=-1)then s else over s (i*8) 8 (M.page ws (ps.getD i default).Frame.toNat)) (λs=>JO.go s)
  (λk s=>s.length=64/\∀a,a<64->s.getD a default=if a<8*k then M.word ws ps a else 0) (λi s hi hs=>by
  have hr:=aLy hp (i:=i) (by omega);obtain⟨s1,s2⟩:=hs;simp only[kS,iT];rw[dT (p:=(i:Int)<_) (by omega),cTq,aB ⟨by omega,by omega⟩];by_cases e:(ps.getD i default).Frame=-1;{rw[dT e];simp only[bT,cTq,cFq,oB,JO.run,kX];rw[aD (by omega) (by omega)];refine⟨rfl,s1,λa ha=>?_⟩;rw[s2 a ha];by_cases e1:a<8*i;{rw[if_pos e1,if_pos (by omega)]};{by_cases e2:a<8*(i+1);{rw[if_neg e1,if_pos e2];unfold M.word;rw[show a/8=i by omega,if_pos (by omega)]};{rw[if_neg e1,if_neg e2]}}}
  · rw[dF e,bF,cTq,aQf (by omega) (by omega) (by omega),oB,aB rfl,aB (by simp only[];omega),bAc (by omega) (by omega) (by omega)]
    simp only[oB,JO.run,kX,cFq,iT];rw[aD (by omega) (by omega)];have hpl:(M.page ws (ps.getD i default).Frame.toNat).length=8:=kE (by omega);refine⟨rfl,by rw[jK (by omega),s1],λa ha=>?_⟩;rw[rO hpl (by omega),s2 a ha];by_cases e1:a<8*i;{rw[if_pos (by omega),if_pos e1,if_pos (by omega)]}
    · by_cases e2:a<8*(i+1)
      {rw[if_neg (by omega),if_pos (by omega),if_pos e2];unfold M.page M.word;rw[kA (by omega),show a/8=i by omega,if_neg (by omega)];congr 1;omega}
      · rw[if_neg (by omega),if_neg (by omega),if_neg e1,if_neg e2]) (λs _=>by
  simp only[kS];rw[dF (by omega),cFq]) (j0 64 0) ⟨by simp,λa ha=>by rw[if_neg (by omega),aQ (by rw[l6];omega),qXJ]⟩
 rw[show x7 (64:Int)=64 from rfl,key];simp only[oB,LO.val,JO.run,nV];congr 1;refine fB k2.1 cP λa ha=>?_;rw[k2.2 a ha,if_pos (by omega),eM ha]
theorem aAe{b:DBare}(hs:SmallB b):cX b=some b:=by unfold cX;rw[dC hs.c.regs,dC hs.mem,dC hs.i,dC hs.o];rfl
structure Live (h : DHost) (g : Int) (x : DGuest) : Prop where
 small:SmallG x
 ok:HOk h
 lo:0<=g
 hi:g<=2
 at_:h.Guests.getD g.toNat default=x
 live:x.Live=true
 core:M.coreOk x.C=true
 pages:x.Pages.length=8
 slots:x.Pages.all M.slotOk=true
 inn:M.rowOk x.In=true
 out:M.rowOk x.Out=true
theorem aU{h:DHost}{g:Int}(hs:SmallH h)(ht:M.there h g=true):Live h g (h.Guests.getD g.toNat default):=by obtain⟨hk,h0,h1,h2⟩:=eD.1 ht;have:=hk.three;have hm:=bN (xs:=h.Guests) (k:=g.toNat) (by omega);have ho:=w5.1 hk.all _ hm;unfold M.guestOk at ho;rw[h2,cTq]at ho;simp only[bA,decide_eq_true_eq]at ho;exact⟨hs.all _ hm,hk,h0,h1,rfl,h2,ho.1.1.1,ho.1.1.2.1,ho.1.1.2.2,ho.1.2,ho.2⟩
theorem bSv{h:DHost}{g:Int}{x:DGuest}(l:Live h g x):uH h g=some ⟨x.C,M.mem h.Words x.Pages,x.In,x.Out⟩:=by have:=l.ok.three;have:=l.lo;have:=l.hi;unfold uH;rw[aB ⟨l.lo,by omega⟩,l.at_,bQv l.ok.len l.pages l.slots];rfl
theorem aBu{h:DHost}{g:Int}(hs:SmallH h):gS h g=some (M.hostView h g):=by unfold gS M.hostView;rw[lG hs,oB];(cases ht:M.there h g with|false=>rfl|true=>have l:=aU hs ht;rw[bT,cFq,bSv l,oB,aAe ⟨l.small.c,by simp[cP],l.small.i,l.small.o⟩];rfl)
theorem td8(i:Nat):n8 (i:Int) 8=((i/8:Nat):Int):=rfl
theorem tm8(i:Nat):y6 (i:Int) 8=((i%8:Nat):Int):=rfl
theorem bEl{α:Type}{f:Nat->α}:∀(xs:List Nat) (s:List α),xs.foldl (λs i=>s++[f i]) s=s++xs.map f
 |[],s=>by simp
 |x::xs,s=>by rw[qXV,bEl xs];simp
theorem bMv{h:DHost}{g:Int}(hs:SmallH h):SmallB (M.hostView h g).1:=by unfold M.hostView;(cases ht:M.there h g with|false=>exact⟨⟨by simp[M.noCore]⟩,by simp,by simp,by simp⟩|true=>have l:=aU hs ht;exact⟨l.small.c,by simp[cP],l.small.i,l.small.o⟩)
theorem aYy {T:Type} [Inhabited T] {xs ys:List T} {step:List T×Int->Option (LO (List T×Int) (JO (List T) (List T)))} (hl:ys.length=xs.length)
 (hs:∀(k:Nat) (zs:List T),k<xs.length->zs.length=xs.length->step (zs,(k:Int))=some (.next (zs.set k (xs.getD k default),(k:Int)+1)))
 (he:∀zs:List T,zs.length=xs.length->step (zs,(xs.length:Int))=some (.ret (.go zs))):iter step (ys,0)=some (.ret (.go xs)):=by
 have key:∀(n k:Nat) (zs:List T),k+n=xs.length->zs.length=xs.length->(∀i,i<k->zs[i]? =xs[i]?)->iter step (zs,(k:Int))=some (.ret (.go xs)):=by
  intro n;induction n with
  |zero=>intro k zs hk hz h;have e:zs=xs:=(by apply qXW;intro i;by_cases hi:i<k;{exact h i hi};{rw[qQH (by omega),qQH (by omega)]});have hk:k=xs.length:=(by omega);rw[cR,hk,he zs hz,e]
  |succ n ih=>
   intro k zs hk hz h;rw[cR,hs k zs (by omega) hz]
   have:=ih (k+1) (zs.set k (xs.getD k default)) (by omega) (by simpa using hz) (λi hi=>by
    rw[o9];by_cases e:k=i;{subst e;rw[if_pos rfl,if_pos (by omega),aQ (by omega),y9 (by omega)]}
    · rw[if_neg e];exact h i (by omega))
   simpa using this
 simpa using key xs.length 0 ys (by omega) hl (by simp)
def bWo{T:Type}(m:T->Int->T×Int):List T->Int->List T×Int
 |[],k=>([],k)
 |x::xs,k=>((m x k).1::(bWo m xs (m x k).2).1,(bWo m xs (m x k).2).2)
theorem xM{xs:List DSlot}(h:xs.length<=1048576):jJ xs=some xs:=by unfold jJ;rw[aB ⟨by omega,by omega,by omega⟩,aRk (by simp)]
theorem aWa{g:DGuest}(h:M.guestOk g=true)(hl:g.Live=false):g=M.noGuest:=by unfold M.guestOk at h;rw[hl,cFq,decide_eq_true_eq]at h;exact h
theorem aWn{g:DGuest}(hs:SmallG g)(h:M.guestOk g=true):dQ g=some g:=by unfold dQ;(cases hl:g.Live with|false=>have:=aWa h hl;subst this;rfl|true=>rw[bT,cFq,dC hs.c.regs,xM hs.pages,dC hs.i,dC hs.o];simp only[oB];rw[<-hl])
theorem aXd{g:DGuest}(hs:SmallG g)(h:M.guestOk g=true):eR g=some g:=by have:=hs.pages;have:=hs.i;have:=hs.o;unfold eR;(cases hl:g.Live with|false=>have:=aWa h hl;subst this;rfl|true=>rw[bT,cFq,bCe hs.c,oB,aB ⟨by omega,by omega⟩,aB ⟨by omega,by omega⟩,aB ⟨by omega,by omega⟩,<-hl])
theorem aEi{gs:List DGuest}(hl:gs.length<=1048576)(hs:∀g∈gs,SmallG g)(h:gs.all M.guestOk=true):fL gs=some gs:=by
 unfold fL;rw[aB ⟨by omega,by omega,by omega⟩]
 have key:=aYy (xs:=gs) (ys:=j0 (x7 (gs.length:Int)) M.noGuest) (step:=cE gs) (by simp) (λk zs hk hz=>by
  have h1:(k:Int)<(gs.length:Int):=(by omega);simp only[cE,dT h1,cTq];rw[aB ⟨by omega,h1⟩,iT];show x4 (dQ (gs.getD k default)) _=_;rw[aWn (hs _ (bN hk)) (w5.1 h _ (bN hk)),oB,aB ⟨by omega,by omega⟩,aD (by omega) (by omega)]) (λzs hz=>by
  simp only[cE];rw[dF (by omega),cFq])
 show x4 (x4 (iter (cE gs) (j0 (x7 (gs.length:Int)) M.noGuest,0)) LO.val) _=_;rw[key];rfl
theorem wS{h:DHost}(hs:SmallH h)(hg:h.Guests.all M.guestOk=true):dA h=some h:=by
 have:=hs.words;have:=hs.guests;unfold dA;rw[aB ⟨by simp;omega,by simp;omega⟩]
 have key:=(pD (xs:=h.Guests) (step:=pR h) (λs j=>(s,j)) (λs g=>s++[g]) (λs=>JO.go s) (λj s=>s.length=j) (λk g s a1 a2 a3 a4=>by
  refine⟨?_,by simp;omega⟩;simp only[pR,dT a1,cTq,iT,a3];rw[aB ⟨by omega,a1⟩];show x4 (eR g) _=_;rw[aXd (hs.all g a2) (w5.1 hg g a2),oB,aB ⟨by omega,by omega⟩,aD (by omega) (by omega)]) (λs _=>by
  simp only[pR];rw[dF (by omega),cFq]) [] rfl).1
 rw[key]
 have e:∀(xs ys:List DGuest),xs.foldl (λs g=>s++[g]) ys=ys++xs:=by
  intro xs;induction xs with
  |nil=>intro ys;simp
  |cons x xs ih=>intro ys;rw[qXV,ih];simp
 rw[e];rfl
namespace M
noncomputable def hostDrop (h:DHost)(g:Int):DHost×Bool:=bif there h g then(⟨h.Words,h.Guests.set g.toNat noGuest⟩,true)else(⟨[],[]⟩,false)
end M
theorem aPq{h:DHost}{g:Int}{x:DGuest}(hs:SmallH h)(hk:HOk h)(h0:0<=g)(h1:g<=2):iL h.Guests g x=some (h.Guests.set g.toNat x):=by have:=hk.three;unfold iL;rw[aEi hs.guests hs.all hk.all,oB,aB ⟨by omega,by omega⟩]
theorem bKr{h:DHost}{g:Int}(hs:SmallH h):jP h g=some (M.hostDrop h g):=by unfold jP M.hostDrop;rw[lG hs,oB];(cases ht:M.there h g with|false=>rfl|true=>obtain⟨hk,h0,h1,-⟩:=eD.1 ht;rw[bT,cFq,dC hs.words,oB,aPq hs hk h0 h1];rfl)
namespace M
def zeros(xs:List Int):Bool:=(u7 8).all λk=>decide (xs.getD k default=0)
def used(mem:List Int):Nat->Nat
 |0=>0
 |p+1=>used mem p+(bif zeros (page mem p)then 0 else 1)
def slotFor(mem free:List Int)(p:Nat):DSlot:=bif zeros (page mem p)then⟨-1,false,false⟩else⟨free.getD (used mem p) default,true,false⟩
def slotsFor(mem free:List Int)(n:Nat):List DSlot:=(u7 n).map (slotFor mem free)
def wordsFor(mem free:List Int)(ws:List Int):Nat->List Int
 |0=>ws
 |p+1=>bif zeros (page mem p)then wordsFor mem free ws p else over (wordsFor mem free ws p) ((free.getD (used mem p) default).toNat*8) 8 (page mem p)
noncomputable def gone (gs:List DGuest):Int:=bif (gs.getD 0 default).Live then(bif (gs.getD 1 default).Live then(bif (gs.getD 2 default).Live then-1 else 2)else 1)else 0
noncomputable def aFx (h:DHost)(b:DBare)(a:Nat):DHost:=⟨wordsFor b.Mem (free (slots h.Guests)) h.Words 8,h.Guests.set a ⟨true,b.C,slotsFor b.Mem (free (slots h.Guests)) 8,b.In,b.Out⟩⟩
noncomputable def booted (h:DHost)(b:DBare):DHost:=⟨wordsFor b.Mem (free (slots h.Guests)) h.Words 8,h.Guests.set (gone h.Guests).toNat ⟨true,b.C,slotsFor b.Mem (free (slots h.Guests)) 8,b.In,b.Out⟩⟩
noncomputable def hostBoot (h:DHost)(b:DBare):DHost×Int×Bool:=bif hostOk h&&bareOk b&&(!decide (gone h.Guests=-1)&&decide (used b.Mem 8<=(free (slots h.Guests)).length))then(booted h b,gone h.Guests,true)else(⟨[],[]⟩,-1,false)
end M
theorem bQa{mem:List Int}{p q:Nat}(h:p<=q):M.used mem p<=M.used mem q:=by
 induction h with
 |refl=>exact k9 _
 |step _ ih=>exact qQQ ih (by rw[M.used];omega)
theorem aVf{mem:List Int}{L n:Nat}:((u7 n).all λp=>M.zeros (M.page mem p)||decide (M.used mem p<L))=decide (M.used mem n<=L):=by
 apply dbe;simp only[w5,f8,r9,decide_eq_true_eq];constructor
 · intro h
   induction n with
   |zero=>simp[M.used]
   |succ n ih=>have h1:=ih λp hp=>h p (by omega);rcases h n (by omega)with h2|h2;{rw[M.used,h2];exact h1};{rw[M.used];cases M.zeros (M.page mem n)<;>simp<;>omega}
 {intro h p hp;(cases hz:M.zeros (M.page mem p)with|true=>exact .inl rfl|false=>have:=bQa (mem:=mem) (show p+1<=n by omega);rw[M.used,hz]at this;simp only[cFq]at this;exact .inr (by omega))}
theorem aSp{ss:List DSlot}{i:Nat}(hi:i<(M.free ss).length):0<=(M.free ss).getD i default/\(M.free ss).getD i default<20:=by have hm:=bN hi;rw[yE]at hm;obtain⟨j,hj,e⟩:=List.mem_map.1 hm;have:=(qZJ.1 hj).1;rw[f8]at this;rw[yE,<-e];omega
theorem bWl{xs:List Int}{p:Nat}(h:p*8+8<=xs.length):(M.page xs p).length=8:=kE h
theorem bLt{xs:List Int}(h:xs.length=8):mW xs=some (M.zeros xs):=by
 unfold mW M.zeros
 have key:=cH (n:=8) (step:=jM xs) (λi=>(i:Int)) (λk=>decide (xs.getD k default=0)) (JO.go ()) (.out false) (λi hi _=>by
  simp only[jM,iT];rw[dT (p:=(i:Int)<_) (by omega),cTq,aB ⟨by omega,by omega⟩,aD (by omega) (by omega)];cases decide (xs.getD i default=0)<;>rfl) (λ_=>by
  simp only[jM];rw[dF (by omega),cFq])
 show x4 (x4 (iter (jM xs) ((0:Nat):Int)) LO.val) _=_;rw[key];cases(u7 8).all λk=>decide (xs.getD k default=0)<;>rfl
theorem aCt{mem ws:List Int}{ss:List DSlot}(hw:ws.length=160):∀{p:Nat},p<=8->M.used mem p<=(M.free ss).length->(M.wordsFor mem (M.free ss) ws p).length=160
 |0,_,_=>hw
 |p+1,h8,hu=>by have eu:M.used mem (p+1)=M.used mem p+(bif M.zeros (M.page mem p)then 0 else 1):=rfl;have ih:=aCt (mem:=mem) (ss:=ss) hw (p:=p) (by omega) (by omega);unfold M.wordsFor;(cases hz:M.zeros (M.page mem p)with|true=>rw[cTq];exact ih|false=>rw[hz]at eu;simp only[cFq]at eu;have:=aSp (ss:=ss) (i:=M.used mem p) (by omega);rw[cFq,jK (by omega),ih])
theorem bFz{gs:List DGuest}(h:gs.length=3):mD gs=some (M.gone gs):=by
 unfold mD;have st:∀i:Nat,i<3->hU gs (i:Int)=some (bif (gs.getD i default).Live then .next ((i+1:Nat):Int)else .ret (.out (i:Int))):=λi hi=>by simp only[hU,iT];rw[dT (p:=(i:Int)<_) (by omega),cTq,aB ⟨by omega,by omega⟩,aD (by omega) (by omega)];cases(gs.getD i default).Live<;>rfl
 have s3:hU gs ((3:Nat):Int)=some (.ret (.go ())):=(by simp only[hU];rw[dF (by omega),cFq]);have s0:=st 0 (by omega);have s1:=st 1 (by omega);have s2:=st 2 (by omega);unfold M.gone;rw[show(0:Int)=((0:Nat):Int)from rfl,cR,s0];(cases(gs.getD 0 default).Live with|false=>rfl|true=>simp only[cTq];rw[show(0+1:Nat)=1 from rfl,cR,s1];(cases(gs.getD 1 default).Live with|false=>rfl|true=>simp only[cTq];rw[show(1+1:Nat)=2 from rfl,cR,s2];(cases(gs.getD 2 default).Live with|false=>rfl|true=>simp only[cTq];rw[show(2+1:Nat)=3 from rfl,cR,s3];rfl)))
theorem aHg(gs:List DGuest):-1<=M.gone gs/\M.gone gs<=2:=by unfold M.gone;cases(gs.getD 0 default).Live<;>cases(gs.getD 1 default).Live<;>cases(gs.getD 2 default).Live<;>simp
theorem bPo{b:DBare}(h:M.bareOk b=true):b.Mem.length=64:=by unfold M.bareOk at h;simp only[bA]at h;exact aLm h.1.1.2
theorem bAd{T:Type}{xs ys:List T}{o k:Nat}(h:ys.length=8)(hk:8<=k):over xs o k ys=over xs o 8 ys:=by simp only[over,h];rw[Nat.min_eq_right hk,Nat.min_self]
theorem bUf{T:Type}[Inhabited T]{xs:List T}{u:Nat}:(xs.drop u).getD 0 default=xs.getD u default:=by simp[x8]
theorem bOn{T:Type}{xs:List T}{u n:Nat}(h:n=(xs.drop u).length):o5 (x7 (n:Int)-x7 1) (qQK (x7 1) (xs.drop u))=xs.drop (u+1):=by rw[show x7 1=1 from rfl,List.drop_drop,iT];apply qQX;rw[h];simp;omega
theorem aXr{mem:List Int}{p:Nat}(h:p<8):o5 (x7 (w64 ((w64 ((p:Int)+1))*8))-x7 (w64 ((p:Int)*8))) (qQK (x7 (w64 ((p:Int)*8))) mem)=M.page mem p:=by rw[aD (z:=(p:Int)+1) (by omega) (by omega),aD (z:=((p:Int)+1)*8) (by omega) (by omega),aD (z:=(p:Int)*8) (by omega) (by omega)];rw[show x7 (((p:Int)+1)*8)-x7 ((p:Int)*8)=8 by omega,show x7 ((p:Int)*8)=p*8 by omega];rfl
theorem cCa{h:DHost}(hk:HOk h):iter (fK h) (-1,2)=some (.ret (.go (M.gone h.Guests))):=by
 have h3:=hk.three
 have st:∀(i:Nat) (a:Int),i<3->fK h (a,(i:Int))=some (.next (bif (h.Guests.getD i default).Live then a else(i:Int),(i:Int)-1)):=λi a hi=>by
  simp only[fK,iT];rw[dT (p:=(0:Int)<=(i:Int)) (by omega),cTq,aB ⟨by omega,by omega⟩];cases(h.Guests.getD i default).Live
  all_goals
   simp only[bT,bF,cTq,cFq,oB,JO.run,xJ];rw[aD (by omega) (by omega)]
 have sn:∀a:Int,fK h (a,-1)=some (.ret (.go a)):=λa=>by simp only[fK];rfl
 rw[show(2:Int)=((2:Nat):Int)from rfl,cR,st 2 _ (by omega)];simp only;rw[show((2:Nat):Int)-1=((1:Nat):Int)from rfl,cR,st 1 _ (by omega)];simp only;rw[show((1:Nat):Int)-1=((0:Nat):Int)from rfl,cR,st 0 _ (by omega)];simp only;rw[show((0:Nat):Int)-1=-1 from rfl,cR,sn];unfold M.gone;cases(h.Guests.getD 0 default).Live<;>cases(h.Guests.getD 1 default).Live<;>cases(h.Guests.getD 2 default).Live<;>rfl
theorem bQu{b:DBare}{s:List Int×List Int×List DSlot×Int}{p:Nat}(hp:p<8)(hs:s.2.2.2=(p:Int))(hm:b.Mem.length=64):iter (iB b s) (true,0)=some (.ret (.go (M.zeros (M.page b.Mem p)))):=by
 have hl:=bWl (xs:=b.Mem) (p:=p) (by omega)
 have key:=cH (n:=8) (step:=iB b s) (λk=>((u7 k).all λj=>decide ((M.page b.Mem p).getD j default=0),(k:Int))) (λ_=>true) (JO.go (M.zeros (M.page b.Mem p))) (.go true) (λk hk _=>by
  simp only[iB,hs,aXr hp,iT];rw[dT (p:=(k:Int)<8) (by omega),cTq];have er:((u7 (k+1)).all λj=>decide ((M.page b.Mem p).getD j default=0))=(((u7 k).all λj=>decide ((M.page b.Mem p).getD j default=0))&&decide ((M.page b.Mem p).getD k default=0)):=(by rw[List.range_succ,List.all_append];simp);rw[er];cases((u7 k).all λj=>decide ((M.page b.Mem p).getD j default=0))with
  |true=>rw[cTq,aB ⟨by omega,by omega⟩];simp only[oB,JO.run,qP,f7,cTq];rw[aD (by omega) (by omega)];rfl
  |false=>simp only[cFq,oB,JO.run,qP,Bool.false_and,cTq];rw[aD (by omega) (by omega)];rfl) (λ_=>by
  simp only[iB];rfl)
 rw[show(u7 8).all (λ_=>true)=true by simp,cTq]at key;exact key
theorem bKd{b:DBare}{ws:List Int}{ss:List DSlot}{g:Int}(hg:0<=g)(hw:ws.length=160)(hm:b.Mem.length=64):
 iter (gE b g) (ws,M.free ss,[],0)=some (.ret (bif decide (M.used b.Mem 8<=(M.free ss).length)then .go (M.wordsFor b.Mem (M.free ss) ws 8,M.slotsFor b.Mem (M.free ss) 8)else .out (⟨[],[]⟩,-1,false))):=by
 have hfl:=bTe (ss:=ss)
 have key:=cH (n:=8) (step:=gE b g) (λp=>(M.wordsFor b.Mem (M.free ss) ws p,(M.free ss).drop (M.used b.Mem p),M.slotsFor b.Mem (M.free ss) p,(p:Int))) (λp=>M.zeros (M.page b.Mem p)||decide (M.used b.Mem p<(M.free ss).length))
  (JO.go (M.wordsFor b.Mem (M.free ss) ws 8,M.slotsFor b.Mem (M.free ss) 8)) (.out (⟨[],[]⟩,-1,false)) (λp hp ho=>by
  have hu:M.used b.Mem p<=(M.free ss).length:=(by have:((u7 p).all λp=>M.zeros (M.page b.Mem p)||decide (M.used b.Mem p<(M.free ss).length))=true:=(by simp only[w5,f8];exact ho);rw[aVf,decide_eq_true_eq]at this;exact this);have hlen:=aCt (mem:=b.Mem) (ss:=ss) hw (p:=p) (by omega) hu;have hpl:=bWl (xs:=b.Mem) (p:=p) (by omega);have hsl:(M.slotsFor b.Mem (M.free ss) p).length=p:=(by simp[M.slotsFor]);have es:M.slotsFor b.Mem (M.free ss) (p+1)=M.slotsFor b.Mem (M.free ss) p++[M.slotFor b.Mem (M.free ss) p]:=(by simp[M.slotsFor,List.range_succ]);have ew:M.wordsFor b.Mem (M.free ss) ws (p+1)=(bif M.zeros (M.page b.Mem p)then M.wordsFor b.Mem (M.free ss) ws p else over (M.wordsFor b.Mem (M.free ss) ws p) (((M.free ss).getD (M.used b.Mem p) default).toNat*8) 8 (M.page b.Mem p)):=rfl;have eu:M.used b.Mem (p+1)=M.used b.Mem p+(bif M.zeros (M.page b.Mem p)then 0 else 1):=rfl;have b1:w64 ((p:Int)*8)=(p:Int)*8:=aD (by omega) (by omega);have b2:w64 ((w64 ((p:Int)+1))*8)=((p:Int)+1)*8:=(by rw[aD (z:=(p:Int)+1) (by omega) (by omega),aD (by omega) (by omega)]);simp only[gE];rw[dT (p:=(p:Int)<8) (by omega),cTq,dT hg,cTq,aB ⟨by omega,by omega,by omega⟩,bQu hp rfl hm];simp only[oB,LO.val,JO.run,xI,aXr hp];cases hz:M.zeros (M.page b.Mem p)with
  |true=>have:(⟨-1,false,false⟩:DSlot)=M.slotFor b.Mem (M.free ss) p:=(by unfold M.slotFor;rw[hz];rfl);rw[hz,cTq]at ew eu;rw[cTq,aB ⟨by simp;omega,by simp;omega⟩];simp only[oB,JO.run,rN,Bool.true_or,cTq];rw[aD (by omega) (by omega),this,<-es,ew,eu];rfl
  |false=>
   have:(⟨(M.free ss).getD (M.used b.Mem p) default,true,false⟩:DSlot)=M.slotFor b.Mem (M.free ss) p:=(by unfold M.slotFor;rw[hz];rfl);rw[hz,cFq]at ew eu;rw[cFq,qQU];by_cases e:M.used b.Mem p<(M.free ss).length;{have hr:=aSp (ss:=ss) (i:=M.used b.Mem p) e;have hdl:((M.free ss).drop (M.used b.Mem p)).length=(M.free ss).length-M.used b.Mem p:=(by simp);rw[dF (p:=(((qQK (M.used b.Mem p) (M.free ss)).length:Nat):Int)=0) (by omega),cFq,show x7 (0:Int)=0 from rfl,bUf];rw[aD (z:=(M.free ss).getD (M.used b.Mem p) default*8) (by omega) (by omega),aB ⟨by omega,by omega⟩,aB ⟨by omega,by omega,by omega⟩,aB ⟨by omega,by omega⟩,aB ⟨by simp;omega,by simp;omega⟩,aB ⟨by omega,by omega,by omega⟩];simp only[oB,JO.run,rN];rw[aD (by omega) (by omega),this,<-es,bOn rfl,bAd hpl (by omega),dT e,ew,eu];rw[show x7 ((M.free ss).getD (M.used b.Mem p) default*8)=((M.free ss).getD (M.used b.Mem p) default).toNat*8 by omega];rfl}
   · rw[dF e,dT (p:=(((qQK (M.used b.Mem p) (M.free ss)).length:Nat):Int)=0) (by simp;omega)];rfl) (λ_=>by
  simp only[gE];rfl)
 rw[aVf]at key;exact key
theorem bJp{h:DHost}{b:DBare}(hs:SmallH h)(hb:SmallB b):qR h b=some (M.hostBoot h b):=by unfold qR M.hostBoot;rw[aGz hs,oB];(cases hh:M.hostOk h with|false=>rfl|true=>have hk:=cV.1 hh;have h3:=hk.three;rw[bT,cFq,bVn hb,oB,f7];(cases hbk:M.bareOk b with|false=>rfl|true=>have hm:=bPo hbk;have hr:=aHg h.Guests;have:=hb.i;have:=hb.o;rw[bT,cFq,wS hs hk.all,oB,cCa hk,f7];simp only[oB,LO.val,JO.run,zC];have ef:M.hostFree h=M.free (M.slots h.Guests):=(by unfold M.hostFree;rw[hh];rfl);rw[aIi hs,oB,ef,bCe hb.c,oB,aB ⟨by omega,by omega⟩,aB ⟨by omega,by omega⟩];by_cases e:M.gone h.Guests=-1;{rw[dT e,e];rw[show iter (gE b (-1)) (h.Words,M.free (M.slots h.Guests),[],0)=some (.ret (.go (h.Words,[]))) by rw[cR];rfl];rfl};{rw[bKd (by omega) hk.len hm,dF e,bF,f7];(cases decide (M.used b.Mem 8<=(M.free (M.slots h.Guests)).length)with|false=>rfl|true=>simp only[cTq,oB,LO.val,JO.run,zH];rw[dF (by omega),cFq,aB ⟨by omega,by omega⟩];rfl)}))
theorem aNq{a b:Int}(ha:0<=a)(hb:0<b):0<=y6 a b/\y6 a b<b:=by rw[Int.tmod_eq_emod_of_nonneg ha];exact⟨Int.emod_nonneg _ (by omega),Int.emod_lt_of_pos _ hb⟩
theorem bYa:rV=some true:=rfl
def enc(e:DEntry):Int:=8*e.Page+(bif e.There then 1 else 0)+(bif e.Write then 2 else 0)+(bif e.User then 4 else 0)
theorem bLa{p:Int}(h0:0<=p)(h7:p<=7):p=0\/p=1\/p=2\/p=3\/p=4\/p=5\/p=6\/p=7:=by omega
theorem bFw{e:DEntry}(h0:0<=e.Page)(h7:e.Page<=7):dX e=some (enc e):=by obtain⟨t,w,u,p⟩:=e;rcases bLa h0 h7 with h|h|h|h|h|h|h|h<;>simp only at h<;>subst h<;>cases t<;>cases w<;>cases u<;>rfl
theorem aUx{e:DEntry}(h:¬(0<=e.Page/\e.Page<=7)):dX e=some (-1):=by unfold dX bU;rw[show∀b y:Bool,(cond b (some y) (some false))=some (b&&y)from λb y=>by cases b<;>rfl];have e1:(decide (0<=e.Page)&&decide (e.Page<=7))=false:=(by rw[Bool.eq_false_iff];simp;omega);rw[e1];rfl
theorem bFp(a b:Nat)(ha:a<9223372036854775808)(hb:b<9223372036854775808):bits .xor .i64 (a:Int) (b:Int)=((a^^^b:Nat):Int):=by have hx:a^^^b<2^63:=Nat.xor_lt_two_pow (by omega) (by omega);have h1:(BitVec.ofInt 64 (a:Int)).toNat=a:=(by rw[BitVec.ofInt_natCast,BitVec.toNat_ofNat];exact Nat.mod_eq_of_lt (by omega));have h2:(BitVec.ofInt 64 (b:Int)).toNat=b:=(by rw[BitVec.ofInt_natCast,BitVec.toNat_ofNat];exact Nat.mod_eq_of_lt (by omega));show IntKind.i64.wrap ((BitVec.ofInt 64 (a:Int)^^^BitVec.ofInt 64 (b:Int)).toNat:Int)=_;rw[BitVec.toNat_xor,h1,h2];exact aGk (by omega) (by omega)
theorem cDb{a b:Int}(a0:0<=a)(a1:a<=9223372036854775807)(b0:0<=b)(b1:b<=9223372036854775807):0<=bits .xor .i64 a b:=by obtain⟨x,rfl⟩:=Int.eq_ofNat_of_zero_le a0;obtain⟨y,rfl⟩:=Int.eq_ofNat_of_zero_le b0;rw[bFp x y (by omega) (by omega)];omega
theorem aWi{b:List Int}(hb:∀x∈b,0<=x/\x<=255)(i:Nat):0<=b.getD i default/\b.getD i default<=255:=by by_cases h:i<b.length;{rw[x8,y9 h];exact hb _ (List.getElem_mem h)};{rw[x8,qQH (by omega)];exact⟨by decide,by decide⟩}
theorem bXq{r:Dl20Rd}{n:Int}(hn:1<=n)(h0:0<=r.p)(h1:r.p<=1000000)(hb:∀x∈r.b,0<=x/\x<=255):∃v,aA r n=some (⟨r.b,r.p+1⟩,v)/\0<=v/\v<n:=by
 unfold aA;have e1:w64 (r.p+1)=r.p+1:=aD (by omega) (by omega);rw[e1,show r.p+1-1=r.p by omega,aD (z:=r.p) (by omega) (by omega),decide_eq_false (show¬n<1 by omega),cond_false];by_cases hl:((r.b.length:Nat):Int)=0;{rw[decide_eq_true hl];exact⟨_,rfl,by omega,by omega⟩}
 · rw[decide_eq_false hl,cond_false]
   have hp:(0:Int)<((r.b.length:Nat):Int):=(by omega);have hn0:n≠0:=(by omega);by_cases hk:r.p<((r.b.length:Nat):Int)
   · rw[decide_eq_true hk,cond_true,aB ⟨h0,hk⟩,aB hn0]
     have g:=aWi hb r.p.toNat
     rw[aGk (by omega) (by omega)];exact⟨_,rfl,aNq g.1 (by omega)⟩
   {have e2:w64 (w64 (r.p*7)+3)=r.p*7+3:=(by rw[aD (z:=r.p*7) (by omega) (by omega),aD (by omega) (by omega)]);rw[decide_eq_false hk,cond_false,e2,aB hl,aB (aNq h0 hp),aB hl,aB (aNq (by omega) hp),aB hl,aB hn0];have g1:=aWi hb (x7 (y6 r.p ((r.b.length:Nat):Int)));have g2:=aWi hb (x7 (y6 (r.p*7+3) ((r.b.length:Nat):Int)));generalize r.b.getD (x7 (y6 r.p ((r.b.length:Nat):Int))) default=X at g1 ⊢;generalize r.b.getD (x7 (y6 (r.p*7+3) ((r.b.length:Nat):Int))) default=Y at g2 ⊢;have q:n8 r.p ((r.b.length:Nat):Int)=r.p/((r.b.length:Nat):Int):=qZW h0;have q0:0<=r.p/((r.b.length:Nat):Int):=Int.ediv_nonneg h0 (by omega);have q1:r.p/((r.b.length:Nat):Int)<=r.p:=Int.ediv_le_self _ h0;rw[q];generalize r.p/((r.b.length:Nat):Int)=Q at q0 q1 ⊢;have k1:IntKind.wrap .i64 X=X:=aGk (by omega) (by omega);have k2:IntKind.wrap .i64 Y=Y:=aGk (by omega) (by omega);have k3:w64 (w64 (w64 (w64 (X*131)+w64 (Y*1117))+w64 (r.p*29))+w64 (w64 Q*53))=X*131+Y*1117+r.p*29+Q*53:=(by rw[aD (z:=X*131) (by omega) (by omega),aD (z:=Y*1117) (by omega) (by omega),aD (z:=X*131+Y*1117) (by omega) (by omega),aD (z:=r.p*29) (by omega) (by omega),aD (z:=X*131+Y*1117+r.p*29) (by omega) (by omega),aD (z:=Q) (by omega) (by omega),aD (z:=Q*53) (by omega) (by omega),aD (by omega) (by omega)]);rw[k1,k2,k3];have a0:0<=X*131+Y*1117+r.p*29+Q*53:=(by omega);have a1:X*131+Y*1117+r.p*29+Q*53<=9223372036854775807:=(by omega);generalize X*131+Y*1117+r.p*29+Q*53=A at a0 a1 ⊢;have d:n8 A 64=A/64:=qZW a0;rw[d,aD (z:=A/64) (by omega) (by omega)];exact⟨_,rfl,aNq (cDb a0 a1 (by omega) (by omega)) (by omega)⟩}
structure Rdr (m : Int) (r : Dl20Rd) : Prop where
 b:∀x∈r.b,0<=x/\x<=255
 p0:0<=r.p
 p1:r.p<=m
theorem Rdr.up{m n:Int}{r:Dl20Rd}(h:Rdr m r)(hn:m<=n):Rdr n r:=⟨h.b,h.p0,Int.le_trans h.p1 hn⟩
theorem aP{m n:Int}{r:Dl20Rd}(R:Rdr m r)(hm:m<=1000000)(hn:1<=n):Ex (aA r n) (λv=>Rdr (m+1) v.1/\0<=v.2/\v.2<n):=by obtain⟨b,p0,p1⟩:=R;obtain⟨v,h1,h2,h3⟩:=bXq hn p0 (by omega) b;exact⟨_,h1,⟨b,by show 0<=r.p+1;omega,by show r.p+1<=m+1;omega⟩,h2,h3⟩
theorem aUp{m:Int}{r:Dl20Rd}(R:Rdr m r)(hm:m<=999999):Ex (dD r) (λv=>Rdr (m+2) v.1/\0<=v.2/\v.2<=4095):=by unfold dD;refine Ex.bind (aP R (by omega) (by omega)) λv1 ⟨R1,a1,b1⟩=>?_;refine Ex.bind (aP R1 (by omega) (by omega)) λv2 ⟨R2,a2,b2⟩=>?_;rw[aD (z:=v1.2*256) (by omega) (by omega),aD (by omega) (by omega)];exact Ex.ret ⟨R2.up (by omega),by show 0<=v1.2*256+v2.2;omega,by show v1.2*256+v2.2<=4095;omega⟩
theorem cBl{xs:List Int}(h:∀x∈xs,0<=x/\x<=255):Ex (lN xs) (λr=>Rdr 0 r):=by unfold lN;refine Ex.join (P:=λs=>∀x∈s,0<=x/\x<=255) ?_ λs hs=>Ex.ret ⟨hs,Int.le_refl _,Int.le_refl _⟩;refine Ex.cond (λhc=>?_) λhc=>Ex.ret ⟨_,rfl,h⟩;have:=of_decide_eq_true hc;exact Ex.grd ⟨by omega,by omega,by omega⟩ (Ex.ret ⟨_,rfl,λx hx=>h x (List.mem_of_mem_drop (List.mem_of_mem_take hx))⟩)
theorem aZt{m n:Int}{r:Dl20Rd}(R:Rdr m r)(hm:m<=1000000):Ex (bZ r n) (λv=>Rdr (m+1) v.1):=by unfold bZ;refine Ex.cond (λh=>?_) λ_=>Ex.ret (R.up (by omega));have:=of_decide_eq_true h;exact Ex.bind (aP R hm (by omega)) λv1 ⟨R1,_,_⟩=>Ex.ret R1
theorem bPp{m n:Int}{r:Dl20Rd}(R:Rdr m r)(hm:m<=1000000):Ex (bZ r n) (λv=>Rdr (m+1) v.1/\(n<=0->v.2=false)):=by unfold bZ;refine Ex.cond (λh=>?_) λ_=>Ex.ret ⟨R.up (by omega),λ_=>rfl⟩;have:=of_decide_eq_true h;exact Ex.bind (aP R hm (by omega)) λv1 ⟨R1,_,_⟩=>Ex.ret ⟨R1,λ_=>by omega⟩
theorem aPm(e:DEntry):Ex (dX e) (λ_=>True):=by by_cases h:0<=e.Page/\e.Page<=7;{rw[bFw h.1 h.2];exact Ex.ret trivial};{rw[aUx h];exact Ex.ret trivial}
theorem bTo{m:Int}(hm:m<=990000)(h0:0<=m)(s:List Int×Int×List Int×Int)(hs:0<=s.2.2.2/\s.2.2.2<=64/\Rdr (m+8*s.2.2.2) ⟨s.1,s.2.1⟩/\(s.2.2.1.length:Int)=s.2.2.2):
 Ex (vI s) (λo=>(∃s',o= .next s'/\(0<=s'.2.2.2/\s'.2.2.2<=64/\Rdr (m+8*s'.2.2.2) ⟨s'.1,s'.2.1⟩/\(s'.2.2.1.length:Int)=s'.2.2.2)/\64-s'.2.2.2.toNat<64-s.2.2.2.toNat)\/∃t,o= .ret (.go t)/\(Rdr (m+512) ⟨t.1,t.2.1⟩/\t.2.2.length=64)):=by
 obtain⟨b,p,mem,k⟩:=s;obtain⟨k0,k1,R,hl⟩:=hs;simp only at k0 k1 R hl;unfold vI;refine Ex.cond (λhk=>?_) λhk=>?_
 · have hk:k<64:=of_decide_eq_true hk
   refine Ex.join (P:=λs8:List Int×Int×Int=>Rdr (m+8*k+3) ⟨s8.1,s8.2.1⟩) ?_ λs8 R8=>?_;{refine Ex.bind (aP R (by omega) (by omega)) λv1 ⟨R1,a1,b1⟩=>?_;refine Ex.cond (λ_=>?_) λ_=>?_;{exact Ex.bind (aUp R1 (by omega)) λv2 ⟨R2,_,_⟩=>Ex.ret ⟨_,rfl,R2.up (by omega)⟩};{exact Ex.ret ⟨_,rfl,R1.up (by omega)⟩}}
   · unfold aDj
     refine Ex.join (P:=λs9:List Int×Int×Int=>Rdr (m+8*k+7) ⟨s9.1,s9.2.1⟩) ?_ λs9 R9=>?_
     · have e:∀Q:JO (List Int×Int×Int) (LO (List Int×Int×List Int×Int) (JO (List Int×Int×List Int) (Dl20Rd×List Int)))->Prop,(∀v:Dl20Rd×Int,∀w,Rdr (m+8*k+7) v.1->Q (.go (v.1.b,v.1.p,w)))->Ex (x4 (aA (Dl20Rd.mk s8.1 s8.2.1) (5:Int)) λv10=>
        x4 (aA v10.1 (4:Int)) λv11=>
        x4 (aA v11.1 (3:Int)) λv12=>
        x4 (aA v12.1 (8:Int)) λv13=>
        x4 (dX (DEntry.mk (decide ((0:Int)<v10.2)) (decide ((0:Int)<v11.2)) (decide ((0:Int)<v12.2)) v13.2)) λv14=>
        some (.go (v13.1.b,v13.1.p,v14))) Q:=λQ hQ=>by
        refine Ex.bind (aP R8 (by omega) (by omega)) λv1 ⟨R1,a1,b1⟩=>?_;refine Ex.bind (aP R1 (by omega) (by omega)) λv2 ⟨R2,a2,b2⟩=>?_;refine Ex.bind (aP R2 (by omega) (by omega)) λv3 ⟨R3,a3,b3⟩=>?_;refine Ex.bind (aP R3 (by omega) (by omega)) λv4 ⟨R4,a4,b4⟩=>?_;refine Ex.bind (aPm _) λv5 _=>?_;exact Ex.ret (hQ v4 v5 (R4.up (by omega)))
       refine Ex.cond (λ_=>?_) λ_=>?_;{exact e _ λv w h=>⟨_,rfl,h⟩};{refine Ex.cond (λ_=>?_) λ_=>?_;{exact e _ λv w h=>⟨_,rfl,h⟩};{exact Ex.ret ⟨_,rfl,R8.up (by omega)⟩}}
     · unfold aCl
       refine Ex.grd ⟨by simp only[y7,l7];omega,by simp only[y7,l7];omega⟩ (Ex.ret (.inl ⟨_,rfl,⟨?_,?_,?_,?_⟩,?_⟩));all_goals simp only[aD (z:=k+1) (by omega) (by omega),y5,y7,l7]
       {omega};{omega};{exact R9.up (by omega)};{omega};{omega}
 {have hk:¬k<64:=of_decide_eq_false hk;exact Ex.ret (.inr ⟨_,rfl,R.up (by omega),by show mem.length=64;omega⟩)}
theorem bWu{m n:Int}{r:Dl20Rd}(R:Rdr m r)(h0:0<=m)(hm:m<=990000):Ex (pX r n) (λv=>Rdr (m+600) v.1/\v.2.length<=64/\(n<=0->v.2.length=64)):=by unfold pX;refine Ex.join (Ex.loopv (λs:List Int×Int×List Int×Int=>0<=s.2.2.2/\s.2.2.2<=64/\Rdr (m+8*s.2.2.2) ⟨s.1,s.2.1⟩/\(s.2.2.1.length:Int)=s.2.2.2) (λs=>64-s.2.2.2.toNat) (λt=>Rdr (m+512) ⟨t.1,t.2.1⟩/\t.2.2.length=64) ⟨by simp,by simp,R.up (by simp),by simp⟩ (bTo hm h0)) λs1 ⟨R1,hl⟩=>?_;unfold aCm;refine Ex.join (P:=λs2:List Int×Int×List Int=>Rdr (m+600) ⟨s2.1,s2.2.1⟩/\s2.2.2.length<=64/\(n<=0->s2.2.2.length=64)) ?_ λs2 h2=>Ex.ret h2;refine Ex.bind (bPp R1 (by omega)) λv3 ⟨R3,o3⟩=>?_;refine Ex.cond (λhv=>?_) λ_=>?_;{refine Ex.bind (aP R3 (by omega) (by omega)) λv4 ⟨R4,a4,b4⟩=>?_;refine Ex.cond (λ_=>?_) λ_=>?_;{exact Ex.grd ⟨by omega,by omega,by omega⟩ (Ex.ret ⟨_,rfl,R4.up (by omega),by rw[m7];omega,λhn=>by rw[o3 hn]at hv;cases hv⟩)};{refine Ex.bind (aP R4 (by omega) (by omega)) λv5 ⟨R5,a5,b5⟩=>?_;refine Ex.bind (aP R5 (by omega) (by omega)) λv6 ⟨R6,a6,b6⟩=>?_;exact Ex.grd ⟨by omega,by omega⟩ (Ex.ret ⟨_,rfl,R6.up (by omega),by rw[lS];omega,λhn=>by rw[o3 hn]at hv;cases hv⟩)}};{exact Ex.ret ⟨_,rfl,R3.up (by omega),by show s1.2.2.length<=64;omega,λ_=>hl⟩}
theorem bYm{Q:Bool->Prop}(h:Q true):Ex rV Q:=⟨_,bYa,h⟩
theorem bOq{m:Int}(hm:m<=990000)(h0:0<=m)(s:List Int×Int×List Int×Int)(hs:0<=s.2.2.2/\s.2.2.2<=4/\Rdr (m+8*s.2.2.2) ⟨s.1,s.2.1⟩/\(s.2.2.1.length:Int)=s.2.2.2):
 Ex (rL s) (λo=>(∃s',o= .next s'/\(0<=s'.2.2.2/\s'.2.2.2<=4/\Rdr (m+8*s'.2.2.2) ⟨s'.1,s'.2.1⟩/\(s'.2.2.1.length:Int)=s'.2.2.2)/\4-s'.2.2.2.toNat<4-s.2.2.2.toNat)\/∃t,o= .ret (.go t)/\(Rdr (m+32) ⟨t.1,t.2.1⟩/\t.2.2.length=4)):=by
 obtain⟨b,p,rs,k⟩:=s;obtain⟨k0,k1,R,hl⟩:=hs;simp only at k0 k1 R hl;unfold rL;refine Ex.cond (λhk=>?_) λhk=>?_
 · have hk:k<4:=of_decide_eq_true hk
   refine Ex.bind (aP R (by omega) (by omega)) λv1 ⟨R1,a1,b1⟩=>?_;refine Ex.bind (aP R1 (by omega) (by omega)) λv2 ⟨R2,a2,b2⟩=>?_;refine Ex.bind (aUp R2 (by omega)) λv3 ⟨R3,a3,b3⟩=>?_;refine Ex.bind (aP R3 (by omega) (by omega)) λv4 ⟨R4,a4,b4⟩=>?_;refine Ex.grd ⟨a4,by simp only[y7,l7];omega⟩ ?_;refine Ex.grd ⟨by simp only[y7,l7];omega,by simp only[y7,l7];omega⟩ (Ex.ret (.inl ⟨_,rfl,⟨?_,?_,?_,?_⟩,?_⟩));all_goals simp only[aD (z:=k+1) (by omega) (by omega),y5,y7,l7]
   {omega};{omega};{exact R4.up (by omega)};{omega};{omega}
 {have hk:¬k<4:=of_decide_eq_false hk;exact Ex.ret (.inr ⟨_,rfl,R.up (by omega),by show rs.length=4;omega⟩)}
theorem bQi{m n:Int}{r:Dl20Rd}(R:Rdr m r)(h0:0<=m)(hm:m<=980000):Ex (oU r n) (λv=>Rdr (m+60) v.1/\v.2.Regs.length<=4):=by unfold oU;refine Ex.bind (aP R (by omega) (by omega)) λv1 ⟨R1,a1,b1⟩=>?_;refine Ex.bind (aP R1 (by omega) (by omega)) λv2 ⟨R2,a2,b2⟩=>?_;refine Ex.grd ⟨a2,by simp only[y7,l7];omega⟩ ?_;refine Ex.bind (aP R2 (by omega) (by omega)) λv3 ⟨R3,a3,b3⟩=>?_;refine Ex.bind (aP R3 (by omega) (by omega)) λv4 ⟨R4,a4,b4⟩=>?_;refine Ex.bind (aP R4 (by omega) (by omega)) λv5 ⟨R5,a5,b5⟩=>?_;refine Ex.bind (aP R5 (by omega) (by omega)) λv6 ⟨R6,a6,b6⟩=>?_;refine Ex.bind (aP R6 (by omega) (by omega)) λv7 ⟨R7,a7,b7⟩=>?_;refine Ex.bind (aP R7 (by omega) (by omega)) λv8 ⟨R8,a8,b8⟩=>?_;refine Ex.bind (aP R8 (by omega) (by omega)) λv9 ⟨R9,a9,b9⟩=>?_;refine Ex.bind (aP R9 (by omega) (by omega)) λv10 ⟨R10,a10,b10⟩=>?_;refine Ex.bind (aP R10 (by omega) (by omega)) λv11 ⟨R11,a11,b11⟩=>?_;refine Ex.bind (aP R11 (by omega) (by omega)) λv12 ⟨R12,a12,b12⟩=>?_;refine Ex.bind (aP R12 (by omega) (by omega)) λv13 ⟨R13,a13,b13⟩=>?_;have R13:Rdr (m+13) v13.1:=R13.up (by omega);refine Ex.join (Ex.loopv (λs:List Int×Int×List Int×Int=>0<=s.2.2.2/\s.2.2.2<=4/\Rdr (m+13+8*s.2.2.2) ⟨s.1,s.2.1⟩/\(s.2.2.1.length:Int)=s.2.2.2) (λs=>4-s.2.2.2.toNat) (λt=>Rdr (m+13+32) ⟨t.1,t.2.1⟩/\t.2.2.length=4) ⟨by simp,by simp,R13.up (by simp),by simp⟩ (bOq (by omega) (by omega))) λs1 ⟨RL,hl⟩=>?_;unfold yZ;refine Ex.join (P:=λs2:List Int×Int×List Int×Int×Int=>Rdr (m+60) ⟨s2.1,s2.2.1⟩/\s2.2.2.1.length<=4) ?_ λs2 h2=>Ex.ret h2;refine Ex.bind (aZt RL (by omega)) λv16 R16=>?_;have R16:Rdr (m+46) v16.1:=R16.up (by omega);refine Ex.cond (λ_=>?_) λ_=>?_;{refine Ex.bind (aP R16 (by omega) (by omega)) λv17 ⟨R17,a17,b17⟩=>?_;refine Ex.cond (λ_=>?_) λ_=>?_;{exact Ex.grd ⟨by omega,by omega,by omega⟩ (Ex.ret ⟨_,rfl,R17.up (by omega),by simp only[m7];omega⟩)};{refine Ex.cond (λ_=>?_) λ_=>?_;{exact Ex.bind (aP R17 (by omega) (by omega)) λv18 ⟨R18,a18,b18⟩=>Ex.ret ⟨_,rfl,R18.up (by omega),by simp only;omega⟩};{refine Ex.cond (λ_=>?_) λ_=>?_;{exact Ex.bind (aP R17 (by omega) (by omega)) λv18 ⟨R18,a18,b18⟩=>Ex.ret ⟨_,rfl,R18.up (by omega),by simp only;omega⟩};{exact Ex.bind (aP R17 (by omega) (by omega)) λv18 ⟨R18,a18,b18⟩=>Ex.grd ⟨by omega,by omega⟩ (Ex.ret ⟨_,rfl,R18.up (by omega),by simp only[lS];omega⟩)}}}};{exact Ex.ret ⟨_,rfl,R16.up (by omega),by simp only;omega⟩}
namespace M
def insOk(x:DIns):Bool:=inR 0 15 x.Op&&inR 0 3 x.A&&inR 0 63 x.N
end M
theorem aVn(x:DIns):rJ x=some (M.insOk x):=by unfold rJ;rw[rB,rB,rB];simp only[oB,M.insOk];cases M.inR 0 15 x.Op<;>cases M.inR 0 3 x.A<;>cases M.inR 0 63 x.N<;>rfl
theorem bRe(x:DIns):Ex (sE x) (λ_=>True):=by unfold sE;rw[aVn];exact Ex.cond (λ_=>Ex.ret trivial) λ_=>Ex.ret trivial
theorem cEx{m n:Int}{r:Dl20Rd}(R:Rdr m r)(hm:m<=999000):Ex (uP r n) (λv=>Rdr (m+6) v.1):=by unfold uP;refine Ex.bind (aP R (by omega) (by omega)) λv1 ⟨R1,a1,b1⟩=>?_;refine Ex.bind (aP R1 (by omega) (by omega)) λv2 ⟨R2,a2,b2⟩=>?_;refine Ex.bind (aP R2 (by omega) (by omega)) λv3 ⟨R3,a3,b3⟩=>?_;refine Ex.join (P:=λs:Int×List Int×Int×Int×Int=>Rdr (m+6) ⟨s.2.1,s.2.2.1⟩) ?_ λs hs=>Ex.ret hs;refine Ex.bind (aZt R3 (by omega)) λv5 R5=>?_;refine Ex.cond (λ_=>?_) λ_=>Ex.ret ⟨_,rfl,R5.up (by omega)⟩;refine Ex.bind (aP R5 (by omega) (by omega)) λv6 ⟨R6,a6,b6⟩=>?_;refine Ex.cond (λ_=>?_) λ_=>?_;{exact Ex.bind (aP R6 (by omega) (by omega)) λv7 ⟨R7,_,_⟩=>Ex.ret ⟨_,rfl,R7.up (by omega)⟩};{refine Ex.cond (λ_=>?_) λ_=>?_;{exact Ex.ret ⟨_,rfl,R6.up (by omega)⟩};{exact Ex.bind (aP R6 (by omega) (by omega)) λv7 ⟨R7,_,_⟩=>Ex.ret ⟨_,rfl,R7.up (by omega)⟩}}
theorem bPm{m:Int}{L:Nat}(hL:L<=64)(hm:m<=900000)(h0:0<=m)(s:List Int×Int×List Int×Int)(hs:0<=s.2.2.2/\s.2.2.2<=(L:Int)/\Rdr (m+12*s.2.2.2) ⟨s.1,s.2.1⟩/\s.2.2.1.length=L):
 Ex (tO s) (λo=>(∃s',o= .next s'/\(0<=s'.2.2.2/\s'.2.2.2<=(L:Int)/\Rdr (m+12*s'.2.2.2) ⟨s'.1,s'.2.1⟩/\s'.2.2.1.length=L)/\L-s'.2.2.2.toNat<L-s.2.2.2.toNat)\/∃t,o= .ret (.go t)/\(Rdr (m+768) ⟨t.2.1,t.2.2⟩/\t.1.length=L)):=by
 obtain⟨b,p,mem,k⟩:=s;obtain⟨k0,k1,R,hl⟩:=hs;simp only at k0 k1 R hl;unfold tO;refine Ex.cond (λhk=>?_) λhk=>?_
 · have hk:k<(mem.length:Int):=of_decide_eq_true hk
   refine Ex.join (P:=λs4:List Int×Int×List Int=>Rdr (m+12*k+12) ⟨s4.1,s4.2.1⟩/\s4.2.2.length=L) ?_ λs4 ⟨R4,hl4⟩=>?_;{refine Ex.join (P:=λ_:Bool=>True) (Ex.cond (λ_=>Ex.ret ⟨_,rfl,trivial⟩) λ_=>Ex.ret ⟨_,rfl,trivial⟩) λs5 _=>?_;unfold aAy;refine Ex.cond (λ_=>?_) λ_=>?_;{refine Ex.bind (aP R (by omega) (by omega)) λv6 ⟨R6,a6,b6⟩=>?_;refine Ex.cond (λ_=>?_) λ_=>Ex.ret ⟨_,rfl,R6.up (by omega),hl⟩;refine Ex.bind (aP R6 (by omega) (by omega)) λv7 ⟨R7,a7,b7⟩=>?_;refine Ex.bind (aP R7 (by omega) (by omega)) λv8 ⟨R8,a8,b8⟩=>?_;refine Ex.bind (aP R8 (by omega) (by omega)) λv9 ⟨R9,a9,b9⟩=>?_;refine Ex.bind (aPm _) λv10 _=>?_;exact Ex.grd ⟨k0,hk⟩ (Ex.ret ⟨_,rfl,R9.up (by omega),by simp only[lS];exact hl⟩)};{refine Ex.bind (cEx R (by omega)) λv11 R11=>?_;refine Ex.join (P:=λs12:List Int×Int×Int=>Rdr (m+12*k+8) ⟨s12.1,s12.2.1⟩) ?_ λs12 R12=>?_;{refine Ex.bind (aP R11 (by omega) (by omega)) λv16 ⟨R16,a16,b16⟩=>?_;refine Ex.cond (λ_=>?_) λ_=>Ex.ret ⟨_,rfl,R16.up (by omega)⟩;refine Ex.bind (aP R16 (by omega) (by omega)) λv17 ⟨R17,a17,b17⟩=>?_;exact Ex.grd ⟨a17,b17⟩ (Ex.ret ⟨_,rfl,R17.up (by omega)⟩)};{unfold yR;refine Ex.join (P:=λs13:List Int×Int×Int=>Rdr (m+12*k+9) ⟨s13.1,s13.2.1⟩) ?_ λs13 R13=>?_;{refine Ex.cond (λ_=>?_) λ_=>Ex.ret ⟨_,rfl,R12.up (by omega)⟩;refine Ex.bind (aP R12 (by omega) (by omega)) λv15 ⟨R15,a15,b15⟩=>?_;exact Ex.cond (λ_=>Ex.ret ⟨_,rfl,R15.up (by omega)⟩) λ_=>Ex.ret ⟨_,rfl,R15.up (by omega)⟩};{unfold zV;refine Ex.bind (bRe _) λv14 _=>?_;exact Ex.grd ⟨k0,hk⟩ (Ex.ret ⟨_,rfl,R13.up (by omega),by simp only[lS];exact hl⟩)}}}}
   · unfold aAu
     refine Ex.ret (.inl ⟨_,rfl,⟨?_,?_,?_,?_⟩,?_⟩);all_goals simp only[aD (z:=k+1) (by omega) (by omega)]
     {omega};{omega};{exact R4.up (by omega)};{exact hl4};{omega}
 {have hk:¬k<(mem.length:Int):=of_decide_eq_false hk;exact Ex.ret (.inr ⟨_,rfl,R.up (by omega),hl⟩)}
theorem cBg{m:Int}{r:Dl20Rd}(R:Rdr m r)(h0:0<=m)(hm:m<=800000):Ex (tA r) (λv=>Rdr (m+1400) v.1/\v.2.length=64):=by unfold tA;refine Ex.bind (bWu R h0 (by omega)) λv1 ⟨R1,hl,hl0⟩=>?_;have hl0:=hl0 (by omega);refine Ex.join (Ex.loopv (λs:List Int×Int×List Int×Int=>0<=s.2.2.2/\s.2.2.2<=(v1.2.length:Int)/\Rdr (m+600+12*s.2.2.2) ⟨s.1,s.2.1⟩/\s.2.2.1.length=v1.2.length) (λs=>v1.2.length-s.2.2.2.toNat) (λt=>Rdr (m+600+768) ⟨t.2.1,t.2.2⟩/\t.1.length=v1.2.length) ⟨by simp,by simp,R1.up (by simp),rfl⟩ (bPm hl (by omega) (by omega))) λs2 ⟨R2,h2⟩=>?_;unfold aBa;exact Ex.ret ⟨R2.up (by omega),by show s2.1.length=64;omega⟩
theorem bKm{m:Int}(hm:m<=900000)(h0:0<=m)(s:List Int×Int×List Int×Int)(hs:0<=s.2.2.2/\s.2.2.2<=3/\Rdr (m+2*(3-s.2.2.2)) ⟨s.1,s.2.1⟩/\(s.2.2.1.length:Int)+s.2.2.2<=3):
 Ex (nH s) (λo=>(∃s',o= .next s'/\(0<=s'.2.2.2/\s'.2.2.2<=3/\Rdr (m+2*(3-s'.2.2.2)) ⟨s'.1,s'.2.1⟩/\(s'.2.2.1.length:Int)+s'.2.2.2<=3)/\s'.2.2.2.toNat<s.2.2.2.toNat)\/∃t,o= .ret (.go t)/\(Rdr (m+6) ⟨t.1,t.2.1⟩/\t.2.2.length<=3)):=by
 obtain⟨b,p,l,k⟩:=s;obtain⟨k0,k1,R,hl⟩:=hs;simp only at k0 k1 R hl;unfold nH;refine Ex.cond (λhk=>?_) λhk=>?_
 · have hk:0<k:=of_decide_eq_true hk
   refine Ex.bind (aUp R (by omega)) λv ⟨R1,a1,b1⟩=>?_;refine Ex.grd ⟨by simp only[y7,l7];omega,by simp only[y7,l7];omega⟩ (Ex.ret (.inl ⟨_,rfl,⟨?_,?_,?_,?_⟩,?_⟩));all_goals simp only[aD (z:=k-1) (by omega) (by omega),y5,y7,l7]
   {omega};{omega};{exact R1.up (by omega)};{omega};{omega}
 {have hk:¬0<k:=of_decide_eq_false hk;exact Ex.ret (.inr ⟨_,rfl,R.up (by omega),by show l.length<=3;omega⟩)}
theorem bGw{m k:Int}{r:Dl20Rd}(R:Rdr m r)(h0:0<=m)(hm:m<=900000)(k0:0<=k)(k1:k<=3):Ex (x4 (iter nH (r.b,r.p,[],k)) LO.val) (λj=>∃t,j= .go t/\(Rdr (m+6) ⟨t.1,t.2.1⟩/\t.2.2.length<=3)):=Ex.loopv (λs:List Int×Int×List Int×Int=>0<=s.2.2.2/\s.2.2.2<=3/\Rdr (m+2*(3-s.2.2.2)) ⟨s.1,s.2.1⟩/\(s.2.2.1.length:Int)+s.2.2.2<=3) (λs=>s.2.2.2.toNat) (λt:List Int×Int×List Int=>Rdr (m+6) ⟨t.1,t.2.1⟩/\t.2.2.length<=3) ⟨k0,k1,R.up (by simp only;omega),by simp only[l7];omega⟩ (bKm hm h0)
theorem bSz{m k:Int}{r:Dl20Rd}(R:Rdr m r)(h0:0<=m)(hm:m<=900000)(k0:0<=k)(k1:k<=3):Ex (x4 (iter zQ (r.b,r.p,[],k)) LO.val) (λj=>∃t,j= .go t/\(Rdr (m+6) ⟨t.1,t.2.1⟩/\t.2.2.length<=3)):=bGw R h0 hm k0 k1
structure Tiny (b : DBare) : Prop where
 regs:b.C.Regs.length<=4
 mem:b.Mem.length<=64
 i:b.In.length<=31
 o:b.Out.length<=31
theorem Tiny.small{b:DBare}(h:Tiny b):SmallB b:=⟨⟨by have:=h.regs;omega⟩,by have:=h.mem;omega,by have:=h.i;omega,by have:=h.o;omega⟩
theorem cCs{m n:Int}{r:Dl20Rd}(R:Rdr m r)(h0:0<=m)(hm:m<=700000):Ex (sN r n) (λv=>Rdr (m+3000) v.1/\Tiny v.2/\(n<=0->v.2.Mem.length=64)):=by unfold sN;refine Ex.bind (bQi R h0 (by omega)) λv1 ⟨R1,c1⟩=>?_;refine Ex.bind (cBg R1 (by omega) (by omega)) λv2 ⟨R2,c2⟩=>?_;refine Ex.join (Ex.bind (aP R2 (by omega) (by omega)) λv13 ⟨R13,a13,b13⟩=>bGw R13 (by omega) (by omega) a13 (by omega)) λs3 ⟨R3,c3⟩=>?_;unfold aAs;refine Ex.join (Ex.bind (aP R3 (by omega) (by omega)) λv10 ⟨R10,a10,b10⟩=>bSz R10 (by omega) (by omega) a10 (by omega)) λs4 ⟨R4,c4⟩=>?_;unfold aAr;refine Ex.join (P:=λs5:List Int×Int×Int×Int×Int×Bool×Int×Int×Int×Bool×Bool×Bool×Bool×List Int×Int×List Int×List Int=>Rdr (m+3000) ⟨s5.2.2.2.2.2.2.2.2.2.2.2.2.2.1,s5.2.2.2.2.2.2.2.2.2.2.2.2.2.2.1⟩/\s5.1.length<=4/\s5.2.2.2.2.2.2.2.2.2.2.2.2.2.2.2.1.length<=64/\s5.2.2.2.2.2.2.2.2.2.2.2.2.2.2.2.2.length<=31/\(n<=0->s5.2.2.2.2.2.2.2.2.2.2.2.2.2.2.2.1.length=64)) ?_ λs5 ⟨h5,g1,g2,g3,g4⟩=>Ex.ret ⟨h5,⟨g1,g2,g3,by show s4.2.2.length<=31;omega⟩,g4⟩;have c2':v2.2.length<=64:=(by omega);refine Ex.bind (bPp R4 (by omega)) λv6 ⟨R6,o6⟩=>?_;refine Ex.cond (λhv=>?_) λ_=>Ex.ret ⟨_,rfl,R6.up (by omega),c1,c2',by simp only;omega,λ_=>c2⟩;refine Ex.bind (aP R6 (by omega) (by omega)) λv7 ⟨R7,a7,b7⟩=>?_;refine Ex.cond (λ_=>?_) λ_=>?_;{exact Ex.bind (bQi R7 (by omega) (by omega)) λv8 ⟨R8,c8⟩=>Ex.ret ⟨_,rfl,R8.up (by omega),c8,c2',by simp only;omega,λhn=>by rw[o6 hn]at hv;cases hv⟩};{refine Ex.cond (λ_=>?_) λ_=>?_;{exact Ex.bind (bWu R7 (by omega) (by omega)) λv8 ⟨R8,c8,_⟩=>Ex.ret ⟨_,rfl,R8.up (by omega),c1,c8,by simp only;omega,λhn=>by rw[o6 hn]at hv;cases hv⟩};{exact Ex.ret ⟨_,rfl,R7.up (by omega),c1,c2',by simp,λhn=>by rw[o6 hn]at hv;cases hv⟩}}
structure LG (g : DGuest) : Prop where
 small:SmallG g
 pages:g.Live=true->g.Pages.length=8
structure LH (gs : List DGuest) : Prop where
 three:gs.length=3
 all:∀g∈gs,LG g
theorem LH.set{gs:List DGuest}{i:Nat}{x:DGuest}(h:LH gs)(hx:LG x):LH (gs.set i x):=by refine⟨by rw[lS];exact h.three,λg hg=>?_⟩;rcases l5 hg with hg|rfl;{exact h.all g hg};{exact hx}
theorem LH.get{gs:List DGuest}(h:LH gs){i:Nat}(hi:i<3):LG (gs.getD i default):=h.all _ (bN (by rw[h.three];exact hi))
theorem LH.host{gs:List DGuest}{ws:List Int}(h:LH gs)(hw:ws.length=160):SmallH ⟨ws,gs⟩:=⟨by simp only[hw];omega,by simp only[h.three];omega,λg hg=>(h.all g hg).small⟩
theorem bXn{h:DHost}{b:DBare}(hb:(M.hostBoot h b).2.2=true)(hs:SmallB b)(hl:LH h.Guests):(M.hostBoot h b).1.Words.length=160/\LH (M.hostBoot h b).1.Guests:=by unfold M.hostBoot at hb ⊢;(cases hc:(M.hostOk h&&M.bareOk b&&(!decide (M.gone h.Guests=-1)&&decide (M.used b.Mem 8<=(M.free (M.slots h.Guests)).length)))with|false=>rw[hc]at hb;cases hb|true=>simp only[bA,decide_eq_true_eq]at hc;have hk:=cV.1 hc.1.1;simp only[cTq,M.booted];exact⟨aCt hk.len (by omega) hc.2.2,hl.set ⟨⟨hs.c,by simp[M.slotsFor],hs.i,hs.o⟩,λ_=>by simp[M.slotsFor]⟩⟩)
abbrev S18:=List Int×Int×List Int×List DGuest×List Int×Int×Int×Int×Int×Bool×Int×Int×Int×Bool×Bool×Bool×Bool×List Int×List Int×List Int×Int
abbrev S19:=List Int×Int×List Int×List DGuest×List Int×Int×Int×Int×Int×Bool×Int×Int×Int×Bool×Bool×Bool×Bool×List Int×List Int×List Int
theorem bPf{m:Int}(hm:m<=900000)(h0:0<=m)(s:List Int×Int×List Int×Int)(hs:0<=s.2.2.2/\s.2.2.2<=160/\Rdr (m+3*s.2.2.2) ⟨s.1,s.2.1⟩/\s.2.2.1.length=160):
 Ex (rG s) (λo=>(∃s',o= .next s'/\(0<=s'.2.2.2/\s'.2.2.2<=160/\Rdr (m+3*s'.2.2.2) ⟨s'.1,s'.2.1⟩/\s'.2.2.1.length=160)/\160-s'.2.2.2.toNat<160-s.2.2.2.toNat)\/∃t,o= .ret (.go t)/\(Rdr (m+480) ⟨t.1,t.2.1⟩/\t.2.2.length=160)):=by
 obtain⟨b,p,ws,k⟩:=s;obtain⟨k0,k1,R,hl⟩:=hs;simp only at k0 k1 R hl;unfold rG;refine Ex.cond (λhk=>?_) λhk=>?_
 · have hk:k<(ws.length:Int):=of_decide_eq_true hk
   refine Ex.join (P:=λs:List Int×Int×List Int=>Rdr (m+3*k+3) ⟨s.1,s.2.1⟩/\s.2.2.length=160) ?_ λs ⟨R1,h1⟩=>?_;{refine Ex.bind (aP R (by omega) (by omega)) λv ⟨R1,_,_⟩=>?_;refine Ex.cond (λ_=>?_) λ_=>Ex.ret ⟨_,rfl,R1.up (by omega),hl⟩;refine Ex.bind (aUp R1 (by omega)) λv ⟨R2,_,_⟩=>?_;exact Ex.grd ⟨k0,hk⟩ (Ex.ret ⟨_,rfl,R2.up (by omega),by simp only[lS];exact hl⟩)}
   · unfold zJ
     refine Ex.ret (.inl ⟨_,rfl,⟨?_,?_,?_,?_⟩,?_⟩);all_goals simp only[aD (z:=k+1) (by omega) (by omega)]
     {omega};{omega};{exact R1.up (by omega)};{exact h1};{omega}
 {have hk:¬k<(ws.length:Int):=of_decide_eq_false hk;exact Ex.ret (.inr ⟨_,rfl,R.up (by omega),hl⟩)}
theorem bSy{m:Int}{s18:S18}(hm:m<=900000)(h0:0<=m)(hsame:s18.2.2.2.2.2.2.2.2.2.2.2.2.2.2.2.2.2.1.length=0\/s18.2.2.2.2.2.2.2.2.2.2.2.2.2.2.2.2.2.1.length=64)(s:List Int×Int×List Int×Int)(hs:0<=s.2.2.2/\s.2.2.2<=8/\Rdr (m+2*s.2.2.2) ⟨s.1,s.2.1⟩/\s.2.2.1.length=64):
 Ex (rA s18 s) (λo=>(∃s',o= .next s'/\(0<=s'.2.2.2/\s'.2.2.2<=8/\Rdr (m+2*s'.2.2.2) ⟨s'.1,s'.2.1⟩/\s'.2.2.1.length=64)/\8-s'.2.2.2.toNat<8-s.2.2.2.toNat)\/∃t,o= .ret (.go t)/\(Rdr (m+16) ⟨t.1,t.2.1⟩/\t.2.2.length=64)):=by
 obtain⟨b,p,mem,k⟩:=s;obtain⟨k0,k1,R,hl⟩:=hs;simp only at k0 k1 R hl;unfold rA;refine Ex.cond (λhk=>?_) λhk=>?_
 · have hk:k<8:=of_decide_eq_true hk
   have e1:w64 (k*8)=k*8:=aD (by omega) (by omega);have e2:w64 ((w64 (k+1))*8)=(k+1)*8:=(by rw[aD (z:=k+1) (by omega) (by omega),aD (by omega) (by omega)]);refine Ex.join (P:=λs:List Int×Int×List Int=>Rdr (m+2*k+2) ⟨s.1,s.2.1⟩/\s.2.2.length=64) ?_ λs ⟨R1,h1⟩=>?_;{refine Ex.join (P:=λs:List Int×Int×List Int=>Rdr (m+2*k+1) ⟨s.1,s.2.1⟩/\s.2.2.length=64) ?_ λs ⟨R1,h1⟩=>?_;{refine Ex.cond (λ_=>?_) λ_=>Ex.ret ⟨_,rfl,R.up (by omega),hl⟩;refine Ex.bind (aP R (by omega) (by omega)) λv ⟨R1,_,_⟩=>?_;refine Ex.cond (λ_=>?_) λ_=>Ex.ret ⟨_,rfl,R1,hl⟩;simp only[e1];exact Ex.grd ⟨by omega,by omega,by omega⟩ (Ex.ret ⟨_,rfl,R1,by simp only[aHu,l6];omega⟩)};{unfold yX;refine Ex.cond (λhz=>?_) λ_=>Ex.ret ⟨_,rfl,R1.up (by omega),h1⟩;have hz:=of_decide_eq_true hz;have h64:=hsame.resolve_left (by omega);refine Ex.bind (aP R1 (by omega) (by omega)) λv ⟨R2,_,_⟩=>?_;refine Ex.cond (λ_=>?_) λ_=>Ex.ret ⟨_,rfl,R2.up (by omega),h1⟩;simp only[e1,e2];exact Ex.grd ⟨by omega,by omega,by omega⟩ (Ex.grd ⟨by omega,by omega,by omega⟩ (Ex.ret ⟨_,rfl,R2.up (by omega),by simp only[aHu,m7,p8];omega⟩))}}
   · unfold yT
     refine Ex.ret (.inl ⟨_,rfl,⟨?_,?_,?_,?_⟩,?_⟩);all_goals simp only[aD (z:=k+1) (by omega) (by omega)]
     {omega};{omega};{exact R1.up (by omega)};{exact h1};{omega}
 {have hk:¬k<8:=of_decide_eq_false hk;exact Ex.ret (.inr ⟨_,rfl,R.up (by omega),hl⟩)}
theorem bNo{m:Int}(hm:m<=600000)(h0:0<=m)(s:S18)(hs:0<=s.2.2.2.2.2.2.2.2.2.2.2.2.2.2.2.2.2.2.2.2/\s.2.2.2.2.2.2.2.2.2.2.2.2.2.2.2.2.2.2.2.2<=3/\Rdr (m+3100*(3-s.2.2.2.2.2.2.2.2.2.2.2.2.2.2.2.2.2.2.2.2)) ⟨s.1,s.2.1⟩/\s.2.2.1.length=160/\LH s.2.2.2.1/\(s.2.2.2.2.2.2.2.2.2.2.2.2.2.2.2.2.2.1.length=0\/s.2.2.2.2.2.2.2.2.2.2.2.2.2.2.2.2.2.1.length=64)):
 Ex (rI s) (λo=>(∃s',o= .next s'/\(0<=s'.2.2.2.2.2.2.2.2.2.2.2.2.2.2.2.2.2.2.2.2/\s'.2.2.2.2.2.2.2.2.2.2.2.2.2.2.2.2.2.2.2.2<=3/\Rdr (m+3100*(3-s'.2.2.2.2.2.2.2.2.2.2.2.2.2.2.2.2.2.2.2.2)) ⟨s'.1,s'.2.1⟩/\s'.2.2.1.length=160/\LH s'.2.2.2.1/\(s'.2.2.2.2.2.2.2.2.2.2.2.2.2.2.2.2.2.1.length=0\/s'.2.2.2.2.2.2.2.2.2.2.2.2.2.2.2.2.2.1.length=64))/\s'.2.2.2.2.2.2.2.2.2.2.2.2.2.2.2.2.2.2.2.2.toNat<s.2.2.2.2.2.2.2.2.2.2.2.2.2.2.2.2.2.2.2.2.toNat)\/∃t,o= .ret (.go t)/\(Rdr (m+9300) ⟨t.1,t.2.1⟩/\t.2.2.1.length=160/\LH t.2.2.2)):=by
 obtain⟨b,p,ws,gs,a5,a6,a7,a8,a9,a10,a11,a12,a13,a14,a15,a16,a17,mem,a19,a20,k⟩:=s;obtain⟨k0,k1,R,hw,hg,hmem⟩:=hs;simp only at k0 k1 R hw hg hmem;unfold rI;refine Ex.cond (λhk=>?_) λhk=>?_
 · have hk:0<k:=of_decide_eq_true hk
   refine Ex.join (P:=λs:S19=>Rdr (m+3100*(3-k)+3100) ⟨s.1,s.2.1⟩/\s.2.2.1.length=160/\LH s.2.2.2.1/\s.2.2.2.2.2.2.2.2.2.2.2.2.2.2.2.2.2.1.length=64) ?_ λs ⟨R1,h1,h2,h3⟩=>?_;{refine Ex.bind (cCs R (by omega) (by omega)) λv ⟨R2,t2,l2⟩=>?_;have l2:=l2 (by omega);refine Ex.join (Ex.loopv (λs:List Int×Int×List Int×Int=>0<=s.2.2.2/\s.2.2.2<=8/\Rdr (m+3100*(3-k)+3000+2*s.2.2.2) ⟨s.1,s.2.1⟩/\s.2.2.1.length=64) (λs=>8-s.2.2.2.toNat) (λt:List Int×Int×List Int=>Rdr (m+3100*(3-k)+3000+16) ⟨t.1,t.2.1⟩/\t.2.2.length=64) ⟨by simp,by simp,R2.up (by simp),l2⟩ (bSy (by omega) (by omega) hmem)) λs ⟨R3,h3⟩=>?_;unfold zA;have hsb:SmallB (DBare.mk v.2.C s.2.2 v.2.In v.2.Out):=⟨t2.small.c,by simp only[h3];omega,t2.small.i,t2.small.o⟩;rw[bJp (hg.host hw) hsb,oB];refine Ex.cond (λhb=>?_) λ_=>Ex.ret ⟨_,rfl,R3.up (by omega),hw,hg,h3⟩;obtain⟨q1,q2⟩:=bXn hb hsb hg;exact Ex.ret ⟨_,rfl,R3.up (by omega),q1,q2,h3⟩}
   · unfold zR
     refine Ex.ret (.inl ⟨_,rfl,⟨?_,?_,?_,h1,h2,.inr h3⟩,?_⟩);all_goals simp only[aD (z:=k-1) (by omega) (by omega)]
     {omega};{omega};{exact R1.up (by omega)};{omega}
 {have hk:¬0<k:=of_decide_eq_false hk;exact Ex.ret (.inr ⟨_,rfl,R.up (by omega),hw,hg⟩)}
theorem bMr{m:Int}(hm:m<=900000)(h0:0<=m)(s:List Int×Int×List DGuest×Int)(hs:0<=s.2.2.2/\s.2.2.2<=3/\Rdr (m+5*(3-s.2.2.2)) ⟨s.1,s.2.1⟩/\LH s.2.2.1):
 Ex (rD s) (λo=>(∃s',o= .next s'/\(0<=s'.2.2.2/\s'.2.2.2<=3/\Rdr (m+5*(3-s'.2.2.2)) ⟨s'.1,s'.2.1⟩/\LH s'.2.2.1)/\s'.2.2.2.toNat<s.2.2.2.toNat)\/∃t,o= .ret (.go t)/\(Rdr (m+15) ⟨t.1,t.2.1⟩/\LH t.2.2)):=by
 obtain⟨b,p,gs,k⟩:=s;obtain⟨k0,k1,R,hg⟩:=hs;simp only at k0 k1 R hg;have h3:=hg.three;unfold rD;refine Ex.cond (λhk=>?_) λhk=>?_
 · have hk:0<k:=of_decide_eq_true hk
   refine Ex.join (P:=λs:List Int×Int×List DGuest=>Rdr (m+5*(3-k)+5) ⟨s.1,s.2.1⟩/\LH s.2.2) ?_ λs ⟨R1,h1⟩=>?_
   · refine Ex.bind (aP R (by omega) (by omega)) λv12 ⟨R12,a12,b12⟩=>?_
     refine Ex.bind (aP R12 (by omega) (by omega)) λv13 ⟨R13,a13,b13⟩=>?_;refine Ex.bind (aP R13 (by omega) (by omega)) λv14 ⟨R14,a14,b14⟩=>?_;have lA:=hg.get (i:=v12.2.toNat) (by omega);have lB:=hg.get (i:=v13.2.toNat) (by omega);have gA:(0:Int)<=v12.2/\v12.2<((gs.length:Nat):Int):=⟨a12,by omega⟩;have gB:(0:Int)<=v13.2/\v13.2<((gs.length:Nat):Int):=⟨a13,by omega⟩;refine Ex.grd gA (Ex.cond (λhA=>?_) λ_=>Ex.ret ⟨_,rfl,R14.up (by omega),hg⟩);refine Ex.grd gB (Ex.cond (λhB=>?_) λ_=>Ex.ret ⟨_,rfl,R14.up (by omega),hg⟩);have pA:=lA.pages hA;have pB:=lB.pages hB;have gP:(0:Int)<=v14.2/\v14.2<(((gs.getD v12.2.toNat default).Pages.length:Nat):Int):=⟨a14,by omega⟩;refine Ex.grd gA (Ex.grd gP (Ex.cond (λ_=>?_) λ_=>Ex.ret ⟨_,rfl,R14.up (by omega),hg⟩));refine Ex.grd gA (Ex.grd gP (Ex.grd gB (Ex.bind (aP R14 (by omega) (by omega)) λv15 ⟨R15,a15,b15⟩=>?_)));generalize hx:(DGuest.mk (gs.getD v12.2.toNat default).Live (gs.getD v12.2.toNat default).C ((gs.getD v12.2.toNat default).Pages.set v14.2.toNat (DSlot.mk ((gs.getD v12.2.toNat default).Pages.getD v14.2.toNat default).Frame false ((gs.getD v12.2.toNat default).Pages.getD v14.2.toNat default).Dirty)) (gs.getD v12.2.toNat default).In (gs.getD v12.2.toNat default).Out)=x;have lx:LG x:=(by subst hx;exact⟨⟨⟨lA.small.c.regs⟩,by simpa only[lS]using lA.small.pages,lA.small.i,lA.small.o⟩,λ_=>by simpa only[lS]using pA⟩);have xl:x.Live=true:=(by subst hx;exact hA);have xp:x.Pages.length=(gs.getD v12.2.toNat default).Pages.length:=(by subst hx;exact lS);have gP2:(0:Int)<=v14.2/\v14.2<((((gs.set v12.2.toNat x).getD v12.2.toNat default).Pages.length:Nat):Int):=(by rw[aQ (by rw[lS];omega),qXQ,xp];exact gP);refine Ex.grd gA (Ex.grd gP2 (Ex.bind (aP R15 (by omega) (by omega)) λv16 ⟨R16,a16,b16⟩=>?_));have hg2:=hg.set (i:=v12.2.toNat) lx;have lB2:=hg2.get (i:=v13.2.toNat) (by omega)
     have hB2:((gs.set v12.2.toNat x).getD v13.2.toNat default).Live=true:=by
      by_cases e:v12.2.toNat=v13.2.toNat
      {rw[e];rw[aQ (by rw[lS];omega),qXQ];exact xl};{rw[aQ (by rw[lS];omega),List.getElem_set_ne e,<-aQ];exact hB}
     have pB2:=lB2.pages hB2;have gQ:(0:Int)<=v15.2/\v15.2<((((gs.set v12.2.toNat x).getD v13.2.toNat default).Pages.length:Nat):Int):=⟨a15,by omega⟩;refine Ex.grd gQ (Ex.ret ⟨_,rfl,R16.up (by omega),?_⟩);exact hg2.set ⟨⟨⟨lB2.small.c.regs⟩,by simpa only[lS]using lB2.small.pages,lB2.small.i,lB2.small.o⟩,λ_=>by simpa only[lS]using pB2⟩
   · unfold zX
     refine Ex.ret (.inl ⟨_,rfl,⟨?_,?_,?_,h1⟩,?_⟩);all_goals simp only[aD (z:=k-1) (by omega) (by omega)]
     {omega};{omega};{exact R1.up (by omega)};{omega}
 {have hk:¬0<k:=of_decide_eq_false hk;exact Ex.ret (.inr ⟨_,rfl,R.up (by omega),hg⟩)}
theorem bRn{m n:Int}{r:Dl20Rd}(R:Rdr m r)(h0:0<=m)(hm:m<=500000):Ex (oJ r n) (λv=>Rdr (m+12000) v.1/\SmallH v.2):=by unfold oJ;refine Ex.bind (P:=λv:DHost=>v.Words.length=160/\LH v.Guests) ⟨_,rfl,by simp,by simp,λg hg=>?_⟩ λv1 ⟨w1,g1⟩=>?_;{have:=List.eq_of_mem_replicate (show g∈j0 3 M.noGuest from hg);rw[this];exact⟨⟨⟨by decide⟩,by decide,by decide,by decide⟩,λh=>by cases h⟩};refine Ex.join (Ex.loopv (λs:List Int×Int×List Int×Int=>0<=s.2.2.2/\s.2.2.2<=160/\Rdr (m+3*s.2.2.2) ⟨s.1,s.2.1⟩/\s.2.2.1.length=160) (λs=>160-s.2.2.2.toNat) (λt:List Int×Int×List Int=>Rdr (m+480) ⟨t.1,t.2.1⟩/\t.2.2.length=160) ⟨by simp,by simp,R.up (by simp),w1⟩ (bPf (by omega) h0)) λs2 ⟨R2,w2⟩=>?_;unfold aBb;refine Ex.join (Ex.bind (aP R2 (by omega) (by omega)) λv17 ⟨R17,a17,b17⟩=>Ex.loopv (λs:S18=>0<=s.2.2.2.2.2.2.2.2.2.2.2.2.2.2.2.2.2.2.2.2/\s.2.2.2.2.2.2.2.2.2.2.2.2.2.2.2.2.2.2.2.2<=3/\Rdr (m+481+3100*(3-s.2.2.2.2.2.2.2.2.2.2.2.2.2.2.2.2.2.2.2.2)) ⟨s.1,s.2.1⟩/\s.2.2.1.length=160/\LH s.2.2.2.1/\(s.2.2.2.2.2.2.2.2.2.2.2.2.2.2.2.2.2.1.length=0\/s.2.2.2.2.2.2.2.2.2.2.2.2.2.2.2.2.2.1.length=64)) (λs=>s.2.2.2.2.2.2.2.2.2.2.2.2.2.2.2.2.2.2.2.2.toNat) (λt:List Int×Int×List Int×List DGuest=>Rdr (m+481+9300) ⟨t.1,t.2.1⟩/\t.2.2.1.length=160/\LH t.2.2.2) (by simp only[aD (z:=1+v17.2) (by omega) (by omega)];exact⟨by omega,by omega,R17.up (by omega),w2,g1,.inl rfl⟩) (bNo (by omega) (by omega))) λs3 ⟨R3,w3,g3⟩=>?_;unfold aAm;refine Ex.join (Ex.bind (aP R3 (by omega) (by omega)) λv9 ⟨R9,a9,b9⟩=>Ex.loopv (λs:List Int×Int×List DGuest×Int=>0<=s.2.2.2/\s.2.2.2<=3/\Rdr (m+481+9300+1+5*(3-s.2.2.2)) ⟨s.1,s.2.1⟩/\LH s.2.2.1) (λs=>s.2.2.2.toNat) (λt:List Int×Int×List DGuest=>Rdr (m+481+9300+1+15) ⟨t.1,t.2.1⟩/\LH t.2.2) ⟨a9,by simp only;omega,R9.up (by simp only;omega),g3⟩ (bMr (by omega) (by omega))) λs4 ⟨R4,g4⟩=>?_;have t4:=g4.three;unfold aAt;refine Ex.join (P:=λs:List Int×List Int×Int×List DGuest=>Rdr (m+12000) ⟨s.2.1,s.2.2.1⟩/\SmallH ⟨s.1,s.2.2.2⟩) ?_ λs5 h5=>Ex.ret h5;refine Ex.bind (aZt R4 (by omega)) λv6 R6=>?_;refine Ex.cond (λ_=>?_) λ_=>Ex.ret ⟨_,rfl,R6.up (by omega),g4.host w3⟩;refine Ex.bind (aP R6 (by omega) (by omega)) λv7 ⟨R7,a7,b7⟩=>?_;refine Ex.cond (λ_=>?_) λ_=>?_;{refine Ex.bind (aP R7 (by omega) (by omega)) λv8 ⟨R8,a8,b8⟩=>?_;exact Ex.grd ⟨a8,by omega⟩ (Ex.ret ⟨_,rfl,R8.up (by omega),g4.host (by simpa only[lS]using w3)⟩)};{refine Ex.cond (λ_=>?_) λ_=>?_;{refine Ex.grd ⟨by omega,by omega,by omega⟩ (Ex.ret ⟨_,rfl,R7.up (by omega),⟨by simp only[w3];omega,by simp only[m7];omega,λg hg=>?_⟩⟩);exact(g4.all g (List.mem_of_mem_take hg)).small};{refine Ex.cond (λ_=>?_) λ_=>?_;{exact Ex.grd ⟨by omega,by omega⟩ (Ex.ret ⟨_,rfl,R7.up (by omega),(g4.set ⟨⟨⟨by simp⟩,by simp,by simp,by simp⟩,λh=>by cases h⟩).host w3⟩)};{have l0:=g4.get (i:=0) (by omega);refine Ex.grd ⟨by omega,by omega⟩ (Ex.ret ⟨_,rfl,R7.up (by omega),⟨by simp only[w3];omega,by simp only[lS];omega,λg hg=>?_⟩⟩);rcases l5 hg with hg|rfl;{exact(g4.all g hg).small};{exact⟨⟨l0.small.c.regs⟩,by simp,l0.small.i,l0.small.o⟩}}}}
theorem nQ{xs ys:List Int}(h:xs.length<=9223372036854775806):dM xs ys=some (decide (xs=ys)):=by
 unfold dM;by_cases hl:xs.length=ys.length
 · have key:∀k:Int,(0<=k/\k<=(xs.length:Int))->iter (gC xs ys) k=some (.ret (bif decide (xs.drop k.toNat=ys.drop k.toNat)then .go ()else .out false)):=by
    refine bAu _ (λk=>xs.length-k.toNat) _ ?_
    rintro k ⟨h0,h1⟩
    by_cases hk:k<xs.length
    · have e1:xs.drop k.toNat=xs.getD k.toNat default::xs.drop (k+1).toNat:=by
       rw[aQ (by omega),show(k+1).toNat=k.toNat+1 by omega];exact List.drop_eq_getElem_cons (by omega)
      have e2:ys.drop k.toNat=ys.getD k.toNat default::ys.drop (k+1).toNat:=(by rw[aQ (by omega),show(k+1).toNat=k.toNat+1 by omega];exact List.drop_eq_getElem_cons (by omega));have es:gC xs ys k=cond (!decide (xs.getD k.toNat default=ys.getD k.toNat default)) (some (.ret (.out false))) (some (.next (k+1))):=(by unfold gC;rw[dT hk,cTq,aB ⟨h0,hk⟩,aB ⟨h0,by omega⟩,aD (by omega) (by omega)]);by_cases he:xs.getD k.toNat default=ys.getD k.toNat default;{refine .inl ⟨k+1,by rw[es,dT he];rfl,⟨by omega,by omega⟩,by omega,?_⟩;rw[e1,e2,he];simp};{refine .inr ⟨λs'=>by rw[es,dF he];simp,?_⟩;rw[es,dF he,e1,e2];have:decide (xs.getD k.toNat default::xs.drop (k+1).toNat=ys.getD k.toNat default::ys.drop (k+1).toNat)=false:=dF λe=>he (List.cons.inj e).1;rw[this];rfl}
    {have hk2:k=xs.length:=(by omega);subst hk2;refine .inr ⟨?_,?_⟩;{intro s';simp[gC]};{simp[gC,hl]}}
   rw[key 0 ⟨by omega,by omega⟩];have:decide ((xs.length:Int)=(ys.length:Int))=true:=(by simp[hl]);rw[this];by_cases e:xs=ys;{subst e;simp[LO.val,JO.run,zF]};{simp[e,LO.val,JO.run]}
 {have:decide ((xs.length:Int)=(ys.length:Int))=false:=(by simp;omega);rw[this];have e:xs≠ys:=λe=>hl (by rw[e]);simp[e]}
theorem aJh{a:DCore}(h:a.Regs.length<=9223372036854775806):mU a a=some true:=by unfold mU;rw[nQ h];simp
theorem aJg{a:DBare}(h:SmallB a):mZ a a=some true:=by have:=h.c.regs;have:=h.mem;have:=h.i;have:=h.o;unfold mZ;rw[aJh (by omega),nQ (by omega),nQ (by omega),nQ (by omega)];simp
theorem aVx{g:DGuest}(h:SmallG g):lX g g=some true:=by
 have:=h.c.regs;have:=h.pages;have:=h.i;have:=h.o;unfold lX;rw[aJh (by omega),nQ (by omega),nQ (by omega)];simp only[beq_self_eq_true,bT,cFq,oB,decide_true]
 have key:=cH (n:=g.Pages.length) (step:=mK g g) (λi=>(i:Int)) (λ_=>true) (JO.go ()) (.out false) (λi hi _=>by
  simp only[mK,iT];rw[dT (p:=(i:Int)<_) (by omega),cTq,aB ⟨by omega,by omega⟩,aB ⟨by omega,by omega⟩,aD (by omega) (by omega)];simp only[beq_self_eq_true,decide_true,Bool.and_self,bT,cFq,cTq];rfl) (λ_=>by
  simp only[mK];rw[dF (by omega),cFq])
 have e:(u7 g.Pages.length).all (λ_=>true)=true:=(by simp);rw[e]at key;rw[show(0:Int)=((0:Nat):Int)from rfl,key];rfl
theorem aJm{h:DHost}(hs:SmallH h):nI h h=some true:=by
 have:=hs.words;have:=hs.guests;unfold nI;rw[nQ (by omega)];simp only[bT,cFq,oB,decide_true]
 have key:=cH (n:=h.Guests.length) (step:=nC h h) (λi=>(i:Int)) (λ_=>true) (JO.go ()) (.out false) (λi hi _=>by
  simp only[nC,iT];rw[dT (p:=(i:Int)<_) (by omega),cTq,aB ⟨by omega,by omega⟩,aB ⟨by omega,by omega⟩];show x4 (lX (h.Guests.getD i default) (h.Guests.getD i default)) _=_;rw[aVx (hs.all _ (bN hi)),oB,aD (by omega) (by omega)];rfl) (λ_=>by
  simp only[nC];rw[dF (by omega),cFq])
 have e:(u7 h.Guests.length).all (λ_=>true)=true:=(by simp);rw[e]at key;rw[show(0:Int)=((0:Nat):Int)from rfl,key];rfl
theorem aUu:SmallG M.noGuest:=⟨⟨by decide⟩,by decide,by decide,by decide⟩
theorem slots_set:∀{gs:List DGuest} {i:Nat},(M.slots (gs.set i M.noGuest)).Sublist (M.slots gs)
 |[],i=>by simp[M.slots]
 |g::gs,0=>by simp only[List.set_cons_zero,M.slots,qZX,M.noGuest,List.nil_append];exact List.sublist_append_right _ _
 |g::gs,i+1=>by simp only[List.set_cons_succ,M.slots,qZX];exact List.Sublist.append (List.Sublist.refl _) slots_set
theorem bSd{gs:List DGuest}{i:Nat}{f:Int}:M.many (M.slots (gs.set i M.noGuest)) f<=M.many (M.slots gs) f:=List.Sublist.countP_le slots_set
theorem bMf:M.guestOk M.noGuest=true:=by unfold M.guestOk;rw[show M.noGuest.Live=false from rfl,cFq,dT rfl]
theorem bYy{h:DHost}{i:Nat}(hk:HOk h):HOk ⟨h.Words,h.Guests.set i M.noGuest⟩:=by refine⟨hk.len,hk.words,by simpa using hk.three,?_,?_⟩;{rw[w5];intro x hx;rcases l5 hx with hx|rfl;{exact w5.1 hk.all x hx};{exact bMf}};{have ha:=hk.alone;simp only[M.alone,w5,r9,u0,decide_eq_true_eq]at ha ⊢;intro s hs;rcases ha s (slots_set.subset hs)with h1|h1;{exact .inl h1};{exact .inr (qQQ bSd h1)}}
theorem bMd{h:DHost}{g:Int}(hs:SmallH h):SmallH (M.hostDrop h g).1:=by unfold M.hostDrop;(cases M.there h g with|false=>exact⟨by simp,by simp,by simp⟩|true=>refine⟨hs.words,by simpa using hs.guests,λx hx=>?_⟩;rcases l5 hx with hx|rfl;{exact hs.all x hx};{exact aUu})
theorem bNx{h h':DHost}{k:Int}(h1:M.hostOk h=true)(h2:M.hostOk h'=true)(hw:h'.Words=h.Words)(hg:h'.Guests.getD k.toNat default=h.Guests.getD k.toNat default):M.hostView h' k=M.hostView h k:=by unfold M.hostView M.there;rw[h1,h2,hw,hg]
theorem aUj{a b:DHost}{but:Int}(ha:SmallH a)(hb:SmallH b)(hv:∀k:Nat,k<3->(k:Int)≠but->M.hostView b (k:Int)=M.hostView a (k:Int)):mA a b but=some true:=by
 unfold mA
 have key:=cH (n:=3) (step:=mL a b but) (λk=>(k:Int)) (λ_=>true) (JO.go ()) (.out false) (λk hk _=>by
  simp only[mL];rw[dT (p:=(k:Int)<3) (by omega),cTq,aBu ha,oB,aBu hb,oB];by_cases e:(k:Int)=but;{rw[dT e];simp only[bT,cFq,oB,JO.run,qO,cTq];rw[aD (by omega) (by omega)];rfl}
  · rw[dF e,hv k hk e,aJg (bMv ha)];simp only[beq_self_eq_true,bT,bF,cFq,oB,JO.run,qO,cTq];rw[aD (by omega) (by omega)];rfl) (λ_=>by
  simp only[mL];rfl)
 rw[show(u7 3).all (λ_=>true)=true by simp,cTq]at key;rw[show(0:Int)=((0:Nat):Int)from rfl,key];rfl
theorem bNk{h:DHost}{g:Int}(ht:M.there h g=true):(M.hostView (M.hostDrop h g).1 g).2=false:=by obtain⟨hk,g0,g1,gl⟩:=eD.1 ht;have h3:=hk.three;have e:(M.hostDrop h g).1=⟨h.Words,h.Guests.set g.toNat M.noGuest⟩:=(by unfold M.hostDrop;rw[ht];rfl);have:M.there (M.hostDrop h g).1 g=false:=(by rw[Bool.eq_false_iff];intro hc;obtain⟨_,_,_,hl⟩:=eD.1 hc;rw[e]at hl;simp only[]at hl;rw[aQ (by rw[lS];omega),qXQ]at hl;cases hl);unfold M.hostView;rw[this];rfl
theorem bGb{h:DHost}{g:Int}(ht:M.there h g=true):M.hostOk (M.hostDrop h g).1=true:=by have e:(M.hostDrop h g).1=⟨h.Words,h.Guests.set g.toNat M.noGuest⟩:=(by unfold M.hostDrop;rw[ht];rfl);rw[e];exact cV.2 (bYy (eD.1 ht).1)
theorem cFn{m:Int}{r:Dl20Rd}(R:Rdr m r)(h0:0<=m)(hm:m<=400000):Ex (uG r) (λv=>Rdr (m+12100) v.1/\SmallH v.2):=by unfold uG;refine Ex.bind (bRn R h0 (by omega)) λv1 ⟨R1,hs⟩=>?_;refine Ex.join (P:=λs:List Int×Int×List DGuest=>Rdr (m+12100) ⟨s.1,s.2.1⟩/\SmallH ⟨v1.2.Words,s.2.2⟩) ?_ λs h=>Ex.ret h;refine Ex.cond (λhc=>?_) λ_=>Ex.ret ⟨_,rfl,R1.up (by omega),hs⟩;have h3:=of_decide_eq_true hc;refine Ex.grd ⟨by omega,by omega⟩ (Ex.cond (λ_=>?_) λ_=>Ex.ret ⟨_,rfl,R1.up (by omega),hs⟩);refine Ex.bind (aP R1 (by omega) (by omega)) λv3 ⟨R3,_,_⟩=>?_;refine Ex.cond (λ_=>?_) λ_=>Ex.ret ⟨_,rfl,R3.up (by omega),hs⟩;refine Ex.grd ⟨by omega,by omega⟩ (Ex.ret ⟨_,rfl,R3.up (by omega),?_⟩);refine⟨hs.words,by rw[lS];exact hs.guests,λy hy=>?_⟩;rcases l5 hy with hy|rfl;{exact hs.all y hy};{exact aUu}
theorem cGh{m:Int}{r:Dl20Rd}{h:DHost}(R:Rdr m r)(hm:m<=900000):Ex (wD r h) (λv=>Rdr (m+3) v.1):=by unfold wD;refine Ex.bind (aP R (by omega) (by omega)) λv1 ⟨R1,a1,b1⟩=>?_;refine Ex.join (P:=λs:List Int×Int×Int=>Rdr (m+2) ⟨s.1,s.2.1⟩) ?_ λs R2=>?_;{refine Ex.cond (λhc=>?_) λ_=>Ex.ret ⟨_,rfl,R1.up (by omega)⟩;have:=of_decide_eq_true hc;refine Ex.grd ⟨a1,by omega⟩ (Ex.cond (λ_=>?_) λ_=>Ex.ret ⟨_,rfl,R1.up (by omega)⟩);refine Ex.bind (aP R1 (by omega) (by omega)) λv4 ⟨R4,a4,b4⟩=>?_;exact Ex.cond (λ_=>Ex.ret ⟨_,rfl,R4.up (by omega)⟩) λ_=>Ex.ret ⟨_,rfl,R4.up (by omega)⟩};{unfold aEr;exact Ex.bind (aP R2 (by omega) (by omega)) λv3 ⟨R3,a3,b3⟩=>Ex.ret (R3.up (by omega))}
section
variable {T : Type} [Inhabited T] {f : T → T} {k : Nat} {xs : List T}
def up{T:Type}(f:T->T)(k:Nat)(xs:List T):List T:=xs.mapIdx λi x=>if i<k then f x else x
theorem aNu{i:Nat}:(up f k xs)[i]? =(xs[i]?).map λx=>if i<k then f x else x:=by simp[up]
theorem zY:(up f k xs).length=xs.length:=by simp[up]
theorem aGe:up f 0 xs=xs:=by apply qXW;intro i;rw[aNu];cases xs[i]? <;>simp
theorem aKg(h:xs.length<=k):up f k xs=xs.map f:=by apply qXW;intro i;rw[aNu,List.getElem?_map];by_cases e:i<xs.length;{rw[y9 e];simp only[Option.map_some,if_pos (show i<k by omega)]};{rw[qQH (by omega)];rfl}
theorem aCh(h:k<xs.length):(up f k xs).set k (f (xs.getD k default))=up f (k+1) xs:=by apply qXW;intro i;rw[o9,aNu,aNu];by_cases e:k=i;{subst e;rw[if_pos rfl,if_pos (by rw[zY];exact h),y9 h,aQ h];simp};{rw[if_neg e];(cases xs[i]? with|none=>rfl|some x=>simp only[Option.map_some];by_cases q:i<k;{rw[if_pos q,if_pos (by omega)]};{rw[if_neg q,if_neg (by omega)]})}
theorem bYr{i:Nat}(h:i<xs.length):(up f k xs).getD i default=if i<k then f (xs.getD i default)else xs.getD i default:=by rw[x6,aNu,y9 h,aQ h];rfl
theorem bKa(h:k<xs.length):(up f k xs).getD k default=xs.getD k default:=by rw[bYr h,if_neg (by omega)]
theorem bXa(h:k<xs.length)(he:f (xs.getD k default)=xs.getD k default):up f k xs=up f (k+1) xs:=by rw[<-aCh h,he];apply qXW;intro i;rw[o9];by_cases e:k=i;{subst e;rw[if_pos rfl,if_pos (by rw[zY];exact h),aNu,y9 h,aQ h];simp};{rw[if_neg e]}
end
namespace M
def mapG(f:DSlot->DSlot)(g:DGuest):DGuest:=⟨g.Live,g.C,g.Pages.map f,g.In,g.Out⟩
def upG(f:DSlot->DSlot)(j:Nat)(g:DGuest):DGuest:=⟨g.Live,g.C,up f j g.Pages,g.In,g.Out⟩
end M
section
variable {f : DSlot → DSlot} {k j : Nat} {gs : List DGuest}
theorem bBk{g:DGuest}:M.upG f 0 g=g:=by unfold M.upG;rw[aGe]
theorem bHj{g:DGuest}(h:g.Pages.length<=j):M.upG f j g=M.mapG f g:=by unfold M.upG M.mapG;rw[aKg h]
end
theorem aRo{T U:Type}[Inhabited T][Inhabited U]{f:T->U}{xs:List T}{j:Nat}(h:j<xs.length):(xs.map f).getD j default=f (xs.getD j default):=by rw[aQ (by rw[List.length_map];exact h),aQ h,List.getElem_map]
namespace M
def keep(s:DSlot):DSlot:=⟨s.Frame,false,s.Dirty⟩
def fresh(s:DSlot):DSlot:=⟨s.Frame,false,false⟩
def nowhere:DSlot:=⟨-1,false,false⟩
def give(ps:List DSlot)(qs:List Int):List DSlot:=qs.foldl (λps q=>ps.set q.toNat nowhere) ps
def giveG(x:DGuest)(qs:List Int):DGuest:=⟨x.Live,x.C,give x.Pages qs,x.In,x.Out⟩
noncomputable def hostGive (h:DHost)(g:Int)(qs:List Int):DHost×Bool:=bif there h g&&qs.all (inR 0 7)then(⟨h.Words,h.Guests.set g.toNat (giveG (h.Guests.getD g.toNat default) qs)⟩,true)else(⟨[],[]⟩,false)
end M
theorem aJc{ss tt:List DSlot}{f:Int}:M.many (ss++tt) f=M.many ss f+M.many tt f:=by simp only[M.many,List.countP_append]
theorem aBp{x:DGuest}{gs:List DGuest}:M.slots (x::gs)=x.Pages++M.slots gs:=by simp only[M.slots,qZX]
theorem aKq{y:DGuest}{f:Int}:∀{gs:List DGuest} {i:Nat},i<gs.length->M.many (M.slots (gs.set i y)) f+M.many (gs.getD i default).Pages f=M.many (M.slots gs) f+M.many y.Pages f
 |[],i,h=>by simp at h
 |g::gs,0,_=>by rw[List.set_cons_zero,aBp,aBp,aJc,aJc];show M.many y.Pages f+M.many (M.slots gs) f+M.many g.Pages f=_;omega
 |g::gs,i+1,h=>by have ih:=aKq (y:=y) (f:=f) (gs:=gs) (i:=i) (by simpa using h);rw[List.set_cons_succ,aBp,aBp,aJc,aJc];show M.many g.Pages f+M.many (M.slots (gs.set i y)) f+M.many (gs.getD i default).Pages f=_;omega
theorem aCo{gs:List DGuest}{i:Nat}{y:DGuest}(h:i<gs.length):(gs.set i y).getD i default=y:=by rw[aQ (by rw[lS];exact h),qXQ]
theorem aMu{gs:List DGuest}{i j:Nat}{y:DGuest}(hj:j<gs.length)(h:i≠j):(gs.set i y).getD j default=gs.getD j default:=by rw[aQ (by rw[lS];exact hj),List.getElem_set_ne h,<-aQ]
theorem aDx{gs:List DGuest}:M.alone (M.slots gs)=true↔∀i,i<gs.length->∀s∈(gs.getD i default).Pages,s.Write=true->M.many (M.slots gs) s.Frame<=1:=by unfold M.alone;rw[w5];constructor;{intro h i hi s hs hw;have:=h s (qXZ.2 ⟨_,bN hi,hs⟩);rw[hw]at this;exact of_decide_eq_true this};{intro h s hs;obtain⟨x,hx,hs⟩:=qXZ.1 hs;obtain⟨i,hi,e⟩:=List.getElem_of_mem hx;(cases hw:s.Write with|false=>rfl|true=>exact dT (h i hi s (by rw[aQ hi,e];exact hs) hw))}
theorem aBn{x:DGuest}(hl:x.Live=true):M.guestOk x=true↔M.coreOk x.C=true/\x.Pages.length=8/\x.Pages.all M.slotOk=true/\M.rowOk x.In=true/\M.rowOk x.Out=true:=by
 unfold M.guestOk;rw[hl,cTq];simp only[bA,decide_eq_true_eq];constructor
 · rintro⟨⟨⟨a,b,c⟩,d⟩,e⟩;exact⟨a,b,c,d,e⟩
 · rintro⟨a,b,c,d,e⟩;exact⟨⟨⟨a,b,c⟩,d⟩,e⟩
theorem aIa{gs:List DGuest}(h:gs.all M.guestOk=true){i:Nat}(hi:i<gs.length):M.guestOk (gs.getD i default)=true:=w5.1 h _ (bN hi)
theorem bIt{gs:List DGuest}(h:gs.all M.guestOk=true){i:Nat}{y:DGuest}(hy:M.guestOk y=true):(gs.set i y).all M.guestOk=true:=by rw[w5];intro z hz;rcases l5 hz with hz|rfl;{exact w5.1 h z hz};{exact hy}
theorem cDk{f:DSlot->DSlot}(hf:∀{s},M.slotOk s=true->M.slotOk (f s)=true){ps:List DSlot}(h:ps.all M.slotOk=true):(ps.map f).all M.slotOk=true:=by rw[w5]at*;intro s hs;obtain⟨t,ht,rfl⟩:=List.mem_map.1 hs;exact hf (h t ht)
theorem vB{h:DHost}{g:Int}{x:DGuest}(l:Live h g x):M.hostView h g=(⟨x.C,M.mem h.Words x.Pages,x.In,x.Out⟩,true):=by unfold M.hostView;rw[eD.2 ⟨l.ok,l.lo,l.hi,by rw[l.at_];exact l.live⟩,cTq,l.at_]
section
variable {h : DHost} {g : Int} {x : DGuest}
theorem bOy{gs:List DGuest}(hn:M.gone gs≠-1):∃a:Nat,a<3/\M.gone gs=(a:Int)/\(gs.getD a default).Live=false:=by unfold M.gone at hn ⊢;(cases h0:(gs.getD 0 default).Live with|false=>exact⟨0,by omega,rfl,h0⟩|true=>(cases h1:(gs.getD 1 default).Live with|false=>exact⟨1,by omega,rfl,h1⟩|true=>(cases h2:(gs.getD 2 default).Live with|false=>exact⟨2,by omega,rfl,h2⟩|true=>rw[h0,h1,h2]at hn;exact absurd rfl hn)))
structure Cln (h : DHost) (g : Int) (x : DGuest) (a : Nat) : Prop where
 live:Live h g x
 lt:a<3
 ne:g.toNat≠a
 none:h.Guests.getD a default=M.noGuest
variable {a : Nat}
theorem mem_map{ws:List Int}{f:DSlot->DSlot}(hf:∀s,(f s).Frame=s.Frame){ps:List DSlot}(hl:ps.length=8):M.mem ws (ps.map f)=M.mem ws ps:=by refine fB cP cP λb hb=>?_;rw[eM hb,eM hb];unfold M.word;rw[aRo (by omega),hf]
end
section
variable {h : DHost} {g : Int} {x : DGuest}
theorem give_len:∀{qs:List Int} {ps:List DSlot},(M.give ps qs).length=ps.length
 |[],_=>rfl
 |q::qs,ps=>by show(M.give (ps.set q.toNat M.nowhere) qs).length=_;rw[give_len,lS]
theorem bFk:∀{qs:List Int} {ps:List DSlot} {j:Nat},j<ps.length->qs.all (M.inR 0 7)=true->(M.give ps qs).getD j default=if(j:Int)∈qs then M.nowhere else ps.getD j default
 |[],ps,j,_,_=>by rw[if_neg (by simp)];rfl
 |q::qs,ps,j,hj,hq=>by rw[y4,bA]at hq;have hr:=M.inR_iff.1 hq.1;show(M.give (ps.set q.toNat M.nowhere) qs).getD j default=_;rw[bFk (by rw[lS];exact hj) hq.2];by_cases e:(j:Int)∈qs;{rw[if_pos e,if_pos (List.mem_cons_of_mem _ e)]};{rw[if_neg e];by_cases e2:(j:Int)=q;{rw[if_pos (by rw[e2];exact List.mem_cons_self ..),show j=q.toNat by omega,aQ (by rw[lS];omega),qXQ]};{rw[if_neg (by rw[List.mem_cons];exact λc=>c.elim e2 e),aQ (by rw[lS];exact hj),List.getElem_set_ne (by omega),<-aQ]}}
theorem aYc{f:Int}(hf:f≠-1):∀{qs:List Int} {ps:List DSlot},M.many (M.give ps qs) f<=M.many ps f
 |[],_=>k9 _
 |q::qs,ps=>by
  show M.many (M.give (ps.set q.toNat M.nowhere) qs) f<=_;refine qQQ (aYc hf) ?_;by_cases hq:q.toNat<ps.length
  · have:∀{ps:List DSlot} {j:Nat},M.many (ps.set j M.nowhere) f<=M.many ps f:=by
     intro ps;induction ps with
     |nil=>intro j;simp
     |cons s ps ih=>intro j;(cases j with|zero=>rw[List.set_cons_zero,iY,iY,if_neg (show M.nowhere.Frame≠f from λe=>hf e.symm)];omega|succ j=>rw[List.set_cons_succ,iY,iY];have:=ih (j:=j);omega)
    exact this
  {rw[List.set_eq_of_length_le (by omega)];exact k9 _}
theorem bIq:∀{qs:List Int} {ps:List DSlot},ps.all M.slotOk=true->(M.give ps qs).all M.slotOk=true
 |[],_,h=>h
 |q::qs,ps,h=>by refine bIq (ps:=ps.set q.toNat M.nowhere) (qs:=qs) ?_;rw[w5]at*;intro s hs;rcases l5 hs with hs|rfl;{exact h s hs};{rfl}
theorem aSl:∀{qs:List Int} {ps:List DSlot} {s:DSlot},s∈M.give ps qs->s.Write=true->s∈ps
 |[],_,_,h,_=>h
 |q::qs,ps,s,h,hw=>by have:=aSl (qs:=qs) (ps:=ps.set q.toNat M.nowhere) h hw;rcases l5 this with h|rfl;{exact h};{cases hw}
theorem bJu(l:Live h g x){qs:List Int}{f:Int}(hf:f≠-1):M.many (M.slots (h.Guests.set g.toNat (M.giveG x qs))) f<=M.many (M.slots h.Guests) f:=by have h3:=l.ok.three;have:=l.lo;have:=l.hi;have e1:=aKq (y:=M.giveG x qs) (f:=f) (gs:=h.Guests) (i:=g.toNat) (by omega);rw[l.at_]at e1;have:M.many (M.giveG x qs).Pages f<=M.many x.Pages f:=aYc hf;omega
theorem aOu(l:Live h g x){qs:List Int}:M.hostOk ⟨h.Words,h.Guests.set g.toNat (M.giveG x qs)⟩=true:=by
 have k:=l.ok;have h3:=k.three;have:=l.lo;have:=l.hi;rw[cV];refine⟨k.len,k.words,by rw[lS];exact h3,bIt k.all ((aBn (x:=M.giveG x qs) l.live).2 ⟨l.core,give_len.trans l.pages,bIq l.slots,l.inn,l.out⟩),?_⟩;rw[aDx];intro i hi s hs hw;rw[lS]at hi
 have old:s∈(h.Guests.getD i default).Pages:=by
  by_cases eg:i=g.toNat
  {rw[eg,aCo (by omega)]at hs;rw[eg,l.at_];exact aSl hs hw};{rwa[aMu (by omega) (λe=>eg e.symm)]at hs}
 have ok:=w5.1 (iV (aIa k.all (by omega:i<h.Guests.length))).1 s old;have hf:s.Frame≠-1:=λe=>by unfold M.slotOk at ok;rw[dT e,cTq,hw]at ok;cases ok
 have h1:=aDx.1 k.alone i (by omega) s old hw;have h2:=bJu l (qs:=qs) hf;show M.many (M.slots (h.Guests.set g.toNat (M.giveG x qs))) s.Frame<=1;omega
theorem aUs(hs:SmallH h)(l:Live h g x){qs:List Int}:SmallH ⟨h.Words,h.Guests.set g.toNat (M.giveG x qs)⟩:=by refine⟨hs.words,by rw[lS];exact hs.guests,λy hy=>?_⟩;rcases l5 hy with hy|rfl;{exact hs.all y hy};{exact⟨l.small.c,by show(M.give x.Pages qs).length<=_;rw[give_len];exact l.small.pages,l.small.i,l.small.o⟩}
theorem bQp(hs:SmallH h)(l:Live h g x){qs:List Int}:Live ⟨h.Words,h.Guests.set g.toNat (M.giveG x qs)⟩ g (M.giveG x qs):=by have h3:=l.ok.three;have:=l.lo;have:=l.hi;have e:((⟨h.Words,h.Guests.set g.toNat (M.giveG x qs)⟩:DHost).Guests.getD g.toNat default)=M.giveG x qs:=aCo (by omega);have:=aU (aUs hs l (qs:=qs)) (eD.2 ⟨cV.1 (aOu l),l.lo,l.hi,by rw[e];exact l.live⟩);rwa[e]at this
theorem bVs(l:Live h g x){qs:List Int}(hq:qs.all (M.inR 0 7)=true){b:Nat}(hb:b<64):(M.mem h.Words (M.giveG x qs).Pages).getD b default=if((b/8:Nat):Int)∈qs then 0 else(M.mem h.Words x.Pages).getD b default:=by have hp:=l.pages;rw[eM hb,eM hb];unfold M.word;show(if((M.give x.Pages qs).getD (b/8) default).Frame<0 then(0:Int)else h.Words.getD (((M.give x.Pages qs).getD (b/8) default).Frame.toNat*8+b%8) default)=_;rw[bFk (by omega) hq];by_cases e:((b/8:Nat):Int)∈qs;{rw[if_pos e,if_pos e,if_pos (by show(-1:Int)<0;omega)]};{rw[if_neg e,if_neg e]}
theorem bOp(l:Live h g x){qs:List Int}{k:Nat}(h3k:k<3)(hn:(k:Int)≠g):M.hostView ⟨h.Words,h.Guests.set g.toNat (M.giveG x qs)⟩ (k:Int)=M.hostView h (k:Int):=by have h3:=l.ok.three;have:=l.lo;have:=l.hi;have hk:(h.Guests.set g.toNat (M.giveG x qs)).getD k default=h.Guests.getD k default:=aMu (by omega) (by omega);unfold M.hostView M.there;rw[aOu l,cV.2 l.ok,iT];simp only[hk]
end
namespace M
def clean(s:DSlot):DSlot:=⟨s.Frame,s.Write,false⟩
end M
theorem aSz{ps:List DSlot}(h:ps.length<=1048576):jZ ps=some (ps.map M.clean):=by
 unfold jZ;rw[xM h,oB]
 have key:=cH (n:=ps.length) (step:=jA ps) (λk=>(up M.clean k ps,(k:Int))) (λ_=>true) (JO.go (ps.map M.clean)) (JO.go (ps.map M.clean)) (λk hk _=>by
  have hl:=zY (f:=M.clean) (k:=k) (xs:=ps);have hp:=aCh (f:=M.clean) hk;simp only[jA,iT];rw[dT (p:=(k:Int)<_) (by omega),cTq,aB ⟨by omega,by omega⟩,aD (by omega) (by omega),bKa hk,cTq,<-hp];rfl) (λ_=>by
  simp only[jA];rw[dF (by omega),cFq,aKg (k9 _)])
 rw[Bool.cond_self]at key;have e:up M.clean 0 ps=ps:=aGe;rw[e]at key;show x4 (x4 (iter (jA ps) (ps,((0:Nat):Int))) LO.val) _=_;rw[key];rfl
def dec(w:Int):DEntry:=⟨decide (w%2=1),decide (w/2%2=1),decide (w/4%2=1),w/8%8⟩
theorem aRn(w:Int):0<=(dec w).Page/\(dec w).Page<=7:=by simp only[dec];omega
theorem fW{w k:Int}(h0:0<=w)(h1:w<=4095)(hk:1<=k):w64 (n8 w k)=w/k/\0<=w/k:=by have e:n8 w k=w/k:=qZW h0;have g0:0<=w/k:=Int.ediv_nonneg h0 (by omega);have g1:w/k<=w:=Int.ediv_le_self k h0;rw[e,aD (by omega) (by omega)];exact⟨rfl,g0⟩
theorem aOs{w:Int}(h0:0<=w)(h1:w<=4095):mH w=some (dec w):=by unfold mH;rw[aHc,show M.wordOk w=true from M.inR_iff.2 ⟨h0,h1⟩];simp only[oB,bT,cFq];rw[(fW h0 h1 (k:=1) (by omega)).1,(fW h0 h1 (k:=2) (by omega)).1,(fW h0 h1 (k:=4) (by omega)).1,(fW h0 h1 (k:=8) (by omega)).1,iM (fW h0 h1 (k:=1) (by omega)).2,iM (fW h0 h1 (k:=2) (by omega)).2,iM (fW h0 h1 (k:=4) (by omega)).2,iM (fW h0 h1 (k:=8) (by omega)).2,Int.ediv_one];rfl
theorem bFq{w:Int}(h0:0<=w)(h1:w<=4095):pI w=some (dec w):=by unfold pI;rw[uV,show M.wordOk w=true from M.inR_iff.2 ⟨h0,h1⟩];simp only[oB,bT,cFq];rw[(fW h0 h1 (k:=2) (by omega)).1,(fW h0 h1 (k:=4) (by omega)).1,(fW h0 h1 (k:=8) (by omega)).1,iM h0,iM (fW h0 h1 (k:=2) (by omega)).2,iM (fW h0 h1 (k:=4) (by omega)).2,iM (fW h0 h1 (k:=8) (by omega)).2];rfl
namespace M
def entry(ws:List Int)(x:DGuest)(p:Nat):DEntry:=if x.C.Root=-1 then⟨true,true,true,(p:Int)⟩else dec (word ws x.Pages (x.C.Root.toNat*8+p))
def shadeFor(x:DGuest)(e:DEntry):DShade:=⟨e.There,e.Write,e.User,e.Page,(x.Pages.getD e.Page.toNat default).Frame,(x.Pages.getD e.Page.toNat default).Write⟩
def shade(ws:List Int)(x:DGuest)(p:Nat):DShade:=shadeFor x (entry ws x p)
def shadow(ws:List Int)(x:DGuest):List DShade:=(u7 8).map (shade ws x)
noncomputable def shadowOf (h:DHost)(g:Int):List DShade:=bif there h g then shadow h.Words (h.Guests.getD g.toNat default)else[]
def pageWords(ws:List Int)(s:DSlot):List Int:=bif decide (s.Frame=-1)then j0 8 0 else page ws s.Frame.toNat
end M
theorem xD{ws:List Int}{x:DGuest}:(M.shadow ws x).length=8:=by simp[M.shadow]
theorem aBj{ws:List Int}{x:DGuest}{p:Nat}(hp:p<8):(M.shadow ws x).getD p default=M.shade ws x p:=by rw[aQ (by rw[xD];exact hp)];simp[M.shadow]
theorem aLp{c:DCore}(h:M.coreOk c=true):-1<=c.Root/\c.Root<=7:=by unfold M.coreOk at h;simp only[bA]at h;exact M.inR_iff.1 h.1.1.2
section
variable {h : DHost} {g : Int} {x : DGuest}
theorem aX(l:Live h g x){p:Nat}(hp:p<8):-1<=(x.Pages.getD p default).Frame/\(x.Pages.getD p default).Frame<20:=aLy l.slots (by rw[l.pages];exact hp)
theorem bIj(l:Live h g x){a:Nat}(ha:a<64):0<=M.word h.Words x.Pages a/\M.word h.Words x.Pages a<=4095:=by have:=aX l (p:=a/8) (by omega);have:=l.ok.len;unfold M.word;split;{omega};{exact gI l.ok.words (by omega)}
theorem tZ{ws:List Int}{s:DSlot}(hw:ws.length=160)(hs:-1<=s.Frame/\s.Frame<20):bV ws s=some (M.pageWords ws s):=by unfold bV M.pageWords;by_cases e:s.Frame=-1;{rw[dT e];rfl};{rw[dF e,cFq,cFq,bAc (by omega) (by omega) (by omega)];rfl}
theorem kJ{ws:List Int}{s:DSlot}(hw:ws.length=160)(hs:-1<=s.Frame/\s.Frame<20):(M.pageWords ws s).length=8:=by unfold M.pageWords;by_cases e:s.Frame=-1;{rw[dT e,cTq,l6]};{rw[dF e,cFq];exact kE (by omega)}
theorem kH{ws:List Int}{s:DSlot}(hs:-1<=s.Frame/\s.Frame<20){a:Nat}(ha:a<8):(M.pageWords ws s).getD a default=if s.Frame<0 then 0 else ws.getD (s.Frame.toNat*8+a) default:=by unfold M.pageWords;by_cases e:s.Frame=-1;{rw[dT e,cTq,if_pos (by omega),aQ (by rw[l6];exact ha),qXJ]};{rw[dF e,cFq,if_neg (by omega)];exact kA ha}
theorem aFk{ws:List Int}{ps:List DSlot}{r p:Nat}(hp:p<8):M.word ws ps (r*8+p)=if(ps.getD r default).Frame<0 then 0 else ws.getD ((ps.getD r default).Frame.toNat*8+p) default:=by unfold M.word;rw[show(r*8+p)/8=r by omega,show(r*8+p)%8=p by omega]
theorem aBf(l:Live h g x){p:Nat}(hp:p<8):0<=(M.entry h.Words x p).Page/\(M.entry h.Words x p).Page<=7:=by unfold M.entry;split;{simp only;omega};{exact aRn _}
theorem bPl(l:Live h g x){p:Nat}(hp:p<8):sL h g (p:Int)=some (M.entry h.Words x p):=by have:=l.ok.three;have:=l.lo;have:=l.hi;have hpl:=l.pages;have hr:=aLp l.core;unfold sL M.entry;rw[aB ⟨l.lo,by omega⟩,l.at_];by_cases e:x.C.Root=-1;{rw[dT e,if_pos e];rfl};{have hsl:=aX l (p:=x.C.Root.toNat) (by omega);rw[dF e,if_neg e,cFq,aB ⟨by omega,by omega⟩];show x4 (bV h.Words (x.Pages.getD x.C.Root.toNat default)) _=_;rw[tZ l.ok.len hsl,oB,aB ⟨by omega,by rw[kJ l.ok.len hsl];omega⟩,iT,kH hsl hp];have hw:=bIj l (a:=x.C.Root.toNat*8+p) (by omega);rw[aFk hp]at hw ⊢;rw[aOs hw.1 hw.2];rfl}
theorem bRc(l:Live h g x){p:Nat}(hp:p<8):tB h g (p:Int)=some (M.shade h.Words x p):=by have:=l.ok.three;have:=l.lo;have:=l.hi;have hpl:=l.pages;have he:=aBf l hp;unfold tB;rw[bPl l hp,oB,aB ⟨l.lo,by omega⟩,l.at_,aB ⟨by omega,by omega⟩];rfl
end
section
variable {h : DHost} {g : Int} {x : DGuest}
theorem aZy(l:Live h g x){a:Nat}(ha:a<64):pY h g (a:Int)=some (M.word h.Words x.Pages a):=by have:=l.ok.three;have:=l.lo;have:=l.hi;have hpl:=l.pages;have hlw:=l.ok.len;have hr:=aX l (p:=a/8) (by omega);unfold pY M.word;rw[aB ⟨l.lo,by omega⟩,l.at_,td8,tm8,aD (z:=((a/8:Nat):Int)) (by omega) (by omega),iT,aB ⟨by omega,by omega⟩];by_cases e:(x.Pages.getD (a/8) default).Frame<0;{rw[dT e,if_pos e];rfl};{rw[dF e,if_neg e,cFq,aD (z:=(x.Pages.getD (a/8) default).Frame*8) (by omega) (by omega),aD (z:=(x.Pages.getD (a/8) default).Frame*8+((a%8:Nat):Int)) (by omega) (by omega),aB ⟨by omega,by omega⟩];rw[show x7 ((x.Pages.getD (a/8) default).Frame*8+((a%8:Nat):Int))=(x.Pages.getD (a/8) default).Frame.toNat*8+a%8 by omega]}
end
theorem aSk{h:DHost}{g:Int}(hs:SmallH h):jY h g=some (M.shadowOf h g):=by
 unfold jY M.shadowOf;rw[wE hs,oB];cases ht:M.there h g with
 |false=>rfl
 |true=>
  have l:=aU hs ht;generalize hx:h.Guests.getD g.toNat default=x at l;have:=l.ok.three;have:=l.lo;have:=l.hi;have hpl:=l.pages;have hr:=aLp l.core;rw[bT,cFq]
  have key:=(aBk (n:=8) (step:=nK h g) (λs j=>(s,j)) (λs i=>s++[M.shade h.Words x i]) (λs=>JO.go s) (λk s=>s.length=k) (λi s hi hs=>by
   refine⟨?_,by simp;omega⟩;have he:=aBf l hi;have run:JO.run (.go ((M.entry h.Words x i).There,(M.entry h.Words x i).Write,(M.entry h.Words x i).User,(M.entry h.Words x i).Page)) (rU h g (s,(i:Int)))=some (LO.next (s++[M.shade h.Words x i],(i:Int)+1)):=(by simp only[JO.run,rU];rw[aB ⟨l.lo,by omega⟩,l.at_,aB ⟨by omega,by omega⟩,aB ⟨by simp;omega,by simp;omega⟩,aD (by omega) (by omega)];rfl);simp only[nK];rw[dT (p:=(i:Int)<8) (by omega),cTq,aB ⟨l.lo,by omega⟩,l.at_];by_cases e:x.C.Root=-1;{rw[dF (by omega),cFq,oB];have ee:M.entry h.Words x i=⟨true,true,true,(i:Int)⟩:=(by unfold M.entry;rw[if_pos e]);rw[ee]at run;exact run}
   · have ee:M.entry h.Words x i=dec (M.word h.Words x.Pages (x.C.Root.toNat*8+i)):=(by unfold M.entry;rw[if_neg e]);have hw:=bIj l (a:=x.C.Root.toNat*8+i) (by omega);rw[dT (by omega),cTq,aD (z:=x.C.Root*8) (by omega) (by omega),aD (z:=x.C.Root*8+(i:Int)) (by omega) (by omega),show x.C.Root*8+(i:Int)=((x.C.Root.toNat*8+i:Nat):Int) by omega,aZy l (by omega),oB,bFq hw.1 hw.2];rw[ee]at run;exact run) (λs _=>by
   simp only[nK];rfl) [] rfl).1
  rw[key,bEl];rfl
theorem fQ{h:DHost}(hs:SmallH h)(hk:HOk h):bI h=some h:=by unfold bI;rw[dC hs.words,aEi hs.guests hs.all hk.all];rfl
namespace M
def zeroH:DHost:=⟨[],[]⟩
def inFrame(h:DHost)(g page frame:Int):DHost:=⟨over h.Words (frame.toNat*8) 8 (pageWords h.Words ((h.Guests.getD g.toNat default).Pages.getD page.toNat default)),h.Guests.set g.toNat ⟨(h.Guests.getD g.toNat default).Live,(h.Guests.getD g.toNat default).C,(h.Guests.getD g.toNat default).Pages.set page.toNat ⟨frame,true,((h.Guests.getD g.toNat default).Pages.getD page.toNat default).Dirty⟩,(h.Guests.getD g.toNat default).In,(h.Guests.getD g.toNat default).Out⟩⟩
def inFree(h:DHost)(g page:Int):DHost×Bool:=bif decide ((free (slots h.Guests)).length=0)then(zeroH,false)else(inFrame h g page ((free (slots h.Guests)).getD 0 default),true)
noncomputable def hostFill (h:DHost)(g page:Int):DHost×Bool:=bif there h g&&inR 0 7 page then
 (bif decide (((h.Guests.getD g.toNat default).Pages.getD page.toNat default).Frame=-1)then inFree h g page else(h,true))
 else(zeroH,false)
noncomputable def hostCopy (h:DHost)(g page:Int):DHost×Bool:=bif there h g&&inR 0 7 page then
 (bif decide (((h.Guests.getD g.toNat default).Pages.getD page.toNat default).Frame=-1)then(zeroH,false)
  else bif decide (many (slots h.Guests) ((h.Guests.getD g.toNat default).Pages.getD page.toNat default).Frame=1)then(inFrame h g page ((h.Guests.getD g.toNat default).Pages.getD page.toNat default).Frame,true)
  else inFree h g page)
 else(zeroH,false)
end M
theorem aMv{ss:List DSlot}{i:Nat}(hi:i<(M.free ss).length):0<=(M.free ss).getD i default/\(M.free ss).getD i default<20:=by have hm:=bN hi;rw[yE]at hm;obtain⟨j,hj,e⟩:=List.mem_map.1 hm;have:=(qZJ.1 hj).1;rw[f8]at this;rw[yE,<-e];omega
section
variable {h : DHost} {g : Int} {x : DGuest}
theorem aYe(hs:SmallH h)(l:Live h g x){p f:Int}(p0:0<=p)(p1:p<=7)(f0:0<=f)(f1:f<20):iO h g p f=some (M.inFrame h g p f):=by have:=l.ok.three;have:=l.lo;have:=l.hi;have hpl:=l.pages;have hlw:=l.ok.len;have hsl:=aX l (p:=p.toNat) (by omega);unfold iO;rw[fQ hs l.ok,oB];simp only[l.at_];rw[aB ⟨l.lo,by omega⟩,aB ⟨p0,by omega⟩,aQf f0 (by omega) (by omega),oB,aB rfl,aB (by simp only[];omega)];show x4 (bV h.Words (x.Pages.getD p.toNat default)) _=_;rw[tZ hlw hsl,oB,aB ⟨l.lo,by omega⟩,aB ⟨p0,by omega⟩];unfold M.inFrame;rw[l.at_]
theorem bEi(hs:SmallH h)(l:Live h g x){p:Int}(p0:0<=p)(p1:p<=7):jG h g p=some (M.inFree h g p):=by unfold jG M.inFree;rw[bDs hs.guests l.ok.all,oB];by_cases e:(M.free (M.slots h.Guests)).length=0;{rw[dT e,dT (by omega)];rfl};{have hf:=aMv (ss:=M.slots h.Guests) (i:=0) (by omega);rw[dF e,dF (by omega),cFq,cFq,aB ⟨by omega,by omega⟩,aYe hs l p0 p1 hf.1 hf.2];rfl}
end
theorem aTf{h:DHost}{g p:Int}(hs:SmallH h):jT h g p=some (M.hostFill h g p):=by unfold jT M.hostFill;rw[lG hs,oB];(cases ht:M.there h g with|false=>rfl|true=>have l:=aU hs ht;generalize hx:h.Guests.getD g.toNat default=x at l;have:=l.ok.three;have:=l.lo;have:=l.hi;have hpl:=l.pages;rw[bT,cFq,xS,oB,f7];(cases hp:M.inR 0 7 p with|false=>rfl|true=>obtain⟨p0,p1⟩:=M.inR_iff.1 hp;rw[bT,cFq,cTq,aB ⟨l.lo,by omega⟩,aB ⟨p0,by omega⟩];(cases decide ((x.Pages.getD p.toNat default).Frame=-1)with|false=>rw[bF,cTq,fQ hs l.ok];rfl|true=>rw[bT,cFq,bEi hs l p0 p1];rfl)))
theorem aVl{h:DHost}{g p:Int}(hs:SmallH h):jX h g p=some (M.hostCopy h g p):=by
 unfold jX M.hostCopy;rw[lG hs,oB];cases ht:M.there h g with
 |false=>rfl
 |true=>
  have l:=aU hs ht;generalize hx:h.Guests.getD g.toNat default=x at l;have:=l.ok.three;have:=l.lo;have:=l.hi;have hpl:=l.pages;rw[bT,cFq,xS,oB,f7];cases hp:M.inR 0 7 p with
  |false=>rfl
  |true=>
   obtain⟨p0,p1⟩:=M.inR_iff.1 hp;have hsl:=aX l (p:=p.toNat) (by omega);have hss:=vL l.ok.all;have hl2:=sX hss;rw[bT,cFq,cTq,aB ⟨l.lo,by omega⟩,aB ⟨p0,by omega⟩];by_cases e:(x.Pages.getD p.toNat default).Frame=-1;{rw[dT e];rfl}
   · have e0:decide ((M.takers (M.slots h.Guests)).getD (x.Pages.getD p.toNat default).Frame.toNat default=1)=decide (M.many (M.slots h.Guests) (x.Pages.getD p.toNat default).Frame=1):=by
      rw[decide_eq_decide,wF hss (by omega),show(((x.Pages.getD p.toNat default).Frame.toNat:Nat):Int)=(x.Pages.getD p.toNat default).Frame by omega];omega
     rw[dF e,cFq,cFq,aSj hs.guests l.ok.all,oB,aB ⟨by omega,by omega⟩,e0];(cases decide (M.many (M.slots h.Guests) (x.Pages.getD p.toNat default).Frame=1)with|true=>rw[cTq,cTq,aYe hs l p0 p1 (by omega) (by omega)];rfl|false=>rw[cFq,cFq,bEi hs l p0 p1];rfl)
section
variable {ws : List Int}
theorem bNq{f:Nat}(h:f*8+8<=ws.length):over ws (f*8) 8 (M.page ws f)=ws:=by have hp:(M.page ws f).length=8:=kE h;refine fB (n:=ws.length) (jK h) rfl λa ha=>?_;rw[rO hp h];by_cases h1:a<f*8;{rw[if_pos h1]};{by_cases h2:a<f*8+8;{rw[if_neg h1,if_pos h2];show((ws.drop (f*8)).take 8).getD (a-f*8) default=_;rw[kA (by omega)];congr 1;omega};{rw[if_neg h1,if_neg h2]}}
theorem bNd{o f:Nat}(h:f*8+8<=ws.length):over ws o 8 (o5 (ws.length-f*8) (qQK (f*8) ws))=over ws o 8 (M.page ws f):=by have hp:(M.page ws f).length=8:=kE h;have e1:o5 (ws.length-f*8) (qQK (f*8) ws)=qQK (f*8) ws:=qQX (by rw[p8];exact k9 _);unfold over;rw[e1,hp,p8,show min 8 (ws.length-f*8)=8 by omega,Nat.min_self,qQX (l:=M.page ws f) (by omega)];rfl
theorem bOf{o i:Nat}(h:o+8<=ws.length)(hi:i<8):(over ws o i (j0 i 0)).set (o+i) 0=over ws o (i+1) (j0 (i+1) 0):=by refine fB (n:=ws.length) (by rw[lS,jK (by omega)]) (jK (by omega)) λa ha=>?_;rw[xR (by rw[jK (by omega)];omega),rO (by simp) (by omega),rO (by simp) (by omega)];by_cases h1:a<o;{rw[if_neg (by omega),if_pos h1,if_pos h1]};{by_cases h2:a<o+i;{rw[if_neg (by omega),if_neg h1,if_pos h2,if_neg h1,if_pos (by omega),aQ (by rw[l6];omega),qXJ,aQ (by rw[l6];omega),qXJ]};{by_cases h3:a=o+i;{rw[if_pos h3.symm,if_neg h1,if_pos (by omega),aQ (by rw[l6];omega),qXJ]};{rw[if_neg (by omega),if_neg h1,if_neg h2,if_neg h1,if_neg (by omega)]}}}
theorem bNy{o:Nat}:over ws o 0 []=ws:=by simp[over]
end
theorem bOk{ws free:List Int}{f:Int}(hf:free.getD 0 default=f)(h0:0<=f)(h1:f<20)(hw:ws.length=160)(hl:0<free.length):iter (jH free) (ws,0)=some (.ret (.go (over ws (f.toNat*8) 8 (j0 8 0)))):=by
 have key:=cH (n:=8) (step:=jH free) (λi=>(over ws (f.toNat*8) i (j0 i 0),(i:Int))) (λ_=>true) (JO.go (over ws (f.toNat*8) 8 (j0 8 0))) (JO.go []) (λi hi _=>by
  have hl2:(over ws (f.toNat*8) i (j0 i 0)).length=160:=(by rw[jK (by omega),hw]);simp only[jH,hf,hl2];rw[dT (p:=(i:Int)<8) (by omega),cTq,aB ⟨by omega,by omega⟩,aD (z:=f*8) (by omega) (by omega),aD (z:=f*8+(i:Int)) (by omega) (by omega),aD (z:=(i:Int)+1) (by omega) (by omega),aB ⟨by omega,by omega⟩,show x7 (f*8+(i:Int))=f.toNat*8+i by omega,bOf (by omega) hi];rfl) (λ_=>by
  simp only[jH];rfl)
 have e0:((u7 8).all λ_=>true)=true:=(by decide);rw[e0]at key;simp only[List.replicate_zero,bNy,cTq]at key;exact key
theorem bRl{s:DSlot}(h:M.slotOk s=true)(e:s.Frame=-1):s.Dirty=false:=by unfold M.slotOk at h;rw[dT e,cTq]at h;cases hd:s.Dirty;{rfl};{rw[hd]at h;simp at h}
theorem aUo{h:DHost}{g p:Int}(hs:SmallH h):gK h g p=some (M.hostFill h g p):=by unfold gK M.hostFill;rw[wE hs,oB];(cases ht:M.there h g with|false=>rfl|true=>have l:=aU hs ht;have hfr:=aIi hs;unfold M.hostFree at hfr;rw[cV.2 l.ok,cTq]at hfr;generalize hx:h.Guests.getD g.toNat default=x at l;have:=l.ok.three;have:=l.lo;have:=l.hi;have hpl:=l.pages;rw[bT,cFq,rB,oB,f7];(cases hp:M.inR 0 7 p with|false=>rfl|true=>obtain⟨p0,p1⟩:=M.inR_iff.1 hp;have hsl:=aX l (p:=p.toNat) (by omega);have hso:=w5.1 l.slots _ (bN (k:=p.toNat) (by omega));rw[bT,cFq,cTq,wS hs l.ok.all,oB,aB ⟨l.lo,by omega⟩,aB ⟨p0,by omega⟩];by_cases e:(x.Pages.getD p.toNat default).Frame=-1;{rw[dT e,dF (by omega),cFq,cTq,hfr,oB];unfold M.inFree;by_cases e2:(M.free (M.slots h.Guests)).length=0;{rw[dT e2,dT (by omega)];rfl};{have hf:=aMv (ss:=M.slots h.Guests) (i:=0) (by omega);rw[dF e2,dF (by omega),cFq,cFq,bOk rfl hf.1 hf.2 l.ok.len (by omega)];simp only[oB,LO.val,JO.run,yP,hx];rw[aB ⟨l.lo,by omega⟩,aB ⟨by omega,by omega⟩,aB ⟨p0,by omega⟩];unfold M.inFrame M.pageWords;rw[hx,dT e,cTq,bRl hso e]}};{rw[dF e,dT (by omega)];rfl}))
theorem aMh{h:DHost}{g:Int}{x:DGuest}(l:Live h g x){p:Nat}(hp:p<8):1<=M.many (M.slots h.Guests) (x.Pages.getD p default).Frame:=by have:=l.ok.three;have:=l.lo;have:=l.hi;have hpl:=l.pages;unfold M.many;refine List.countP_pos_iff.2 ⟨x.Pages.getD p default,?_,by simp⟩;refine qXZ.2 ⟨x,?_,bN (by omega)⟩;rw[<-l.at_];exact bN (by omega)
theorem aLl{h:DHost}{g:Int}{x:DGuest}(l:Live h g x){p:Nat}(hp:p<8):x.Pages.getD p default∈M.slots h.Guests:=by have:=l.ok.three;have:=l.lo;have:=l.hi;have hpl:=l.pages;refine qXZ.2 ⟨x,?_,bN (by omega)⟩;rw[<-l.at_];exact bN (by omega)
theorem aSo{h:DHost}{g p:Int}(hs:SmallH h):gM h g p=some (M.hostCopy h g p):=by unfold gM M.hostCopy;rw[wE hs,oB];(cases ht:M.there h g with|false=>rfl|true=>have l:=aU hs ht;have hfr:=aIi hs;unfold M.hostFree at hfr;rw[cV.2 l.ok,cTq]at hfr;generalize hx:h.Guests.getD g.toNat default=x at l;have:=l.ok.three;have:=l.lo;have:=l.hi;have hpl:=l.pages;have hlw:=l.ok.len;rw[bT,cFq,rB,oB,f7];(cases hp:M.inR 0 7 p with|false=>rfl|true=>obtain⟨p0,p1⟩:=M.inR_iff.1 hp;have hsl:=aX l (p:=p.toNat) (by omega);have hss:=vL l.ok.all;have hl2:=sX hss;have hm1:=aMh l (p:=p.toNat) (by omega);have hal:=w5.1 l.ok.alone _ (aLl l (p:=p.toNat) (by omega));rw[bT,cFq,cTq,aB ⟨l.lo,by omega⟩,aB ⟨p0,by omega⟩];by_cases e:(x.Pages.getD p.toNat default).Frame=-1;{rw[dT e,dT (by omega)];rfl};{have hpf:(x.Pages.getD p.toNat default).Frame.toNat*8+8<=h.Words.length:=(by omega);have hpw:M.pageWords h.Words (x.Pages.getD p.toNat default)=M.page h.Words (x.Pages.getD p.toNat default).Frame.toNat:=(by unfold M.pageWords;rw[dF e,cFq]);have same:JO.run (.go (h.Words,(x.Pages.getD p.toNat default).Frame)) (nD h g p h)=some (M.inFrame h g p (x.Pages.getD p.toNat default).Frame,true):=(by simp only[JO.run,nD,hx];rw[aB ⟨l.lo,by omega⟩,aB ⟨p0,by omega⟩];unfold M.inFrame;rw[hx,hpw,bNq hpf]);rw[dF e,dF (by omega),cFq,cFq,wS hs l.ok.all,oB,aB ⟨l.lo,by omega⟩,aB ⟨p0,by omega⟩];(cases hw:(x.Pages.getD p.toNat default).Write with|true=>rw[hw,bT,qQU,decide_eq_true_eq]at hal;rw[bT,cFq,dT (by omega),cTq,oB,same]|false=>have e0:decide ((1:Int)<(M.takers (M.slots h.Guests)).getD (x.Pages.getD p.toNat default).Frame.toNat default)=!decide (M.many (M.slots h.Guests) (x.Pages.getD p.toNat default).Frame=1):=(by rw[wF hss (by omega),show(((x.Pages.getD p.toNat default).Frame.toNat:Nat):Int)=(x.Pages.getD p.toNat default).Frame by omega];by_cases q:M.many (M.slots h.Guests) (x.Pages.getD p.toNat default).Frame=1;{rw[dT q,dF (by omega)];rfl};{rw[dF q,dT (by omega)];rfl});rw[bF,cTq,bQy hs l.ok,oB,aB ⟨by omega,by omega⟩,e0];(cases decide (M.many (M.slots h.Guests) (x.Pages.getD p.toNat default).Frame=1)with|true=>rw[bT,cFq,cTq,oB,same]|false=>rw[bF,cTq,cFq,hfr,oB];unfold M.inFree;by_cases e2:(M.free (M.slots h.Guests)).length=0;{rw[dT e2,dT (by omega)];rfl};{have hf:=aMv (ss:=M.slots h.Guests) (i:=0) (by omega);generalize hff:(M.free (M.slots h.Guests)).getD 0 default=f at hf;rw[dF e2,dF (by omega),cFq,cFq,aB ⟨by omega,by omega⟩,aB ⟨by omega,by omega⟩,aD (z:=f*8) (by omega) (by omega),aD (z:=f+1) (by omega) (by omega),aD (z:=(f+1)*8) (by omega) (by omega),aD (z:=(x.Pages.getD p.toNat default).Frame*8) (by omega) (by omega),aB ⟨by omega,by omega,by omega⟩,aB ⟨by omega,by omega,by omega⟩,aB ⟨by omega,by omega⟩,oB];rw[show x7 (f*8)=f.toNat*8 by omega,show x7 ((f+1)*8)-f.toNat*8=8 by omega,show x7 ((h.Words.length:Nat):Int)-x7 ((x.Pages.getD p.toNat default).Frame*8)=h.Words.length-(x.Pages.getD p.toNat default).Frame.toNat*8 by omega,show x7 ((x.Pages.getD p.toNat default).Frame*8)=(x.Pages.getD p.toNat default).Frame.toNat*8 by omega,bNd hpf];simp only[JO.run,nD,hx];rw[aB ⟨l.lo,by omega⟩,aB ⟨p0,by omega⟩];unfold M.inFrame;rw[hx,hpw]}))}))
structure FitG (g : DGuest) : Prop where
 c:g.C.Regs.length<=9223372036854775807
 pages:g.Pages.length<=9223372036854775807
 i:g.In.length<=9223372036854775807
 o:g.Out.length<=9223372036854775807
structure FitH (h : DHost) : Prop where
 words:h.Words.length<=9223372036854775807
 guests:h.Guests.length<=9223372036854775807
 all:∀g∈h.Guests,FitG g
theorem aUq:SmallH M.zeroH:=⟨by simp[M.zeroH],by simp[M.zeroH],by simp[M.zeroH]⟩
theorem uC{h:DHost}{g p f:Int}{x:DGuest}(hs:SmallH h)(l:Live h g x)(f0:0<=f)(f1:f<20):SmallH (M.inFrame h g p f):=by have hlw:=l.ok.len;unfold M.inFrame;refine⟨?_,by simpa using hs.guests,λy hy=>?_⟩;{rw[jK (by omega)];exact hs.words};{rcases l5 hy with hy|rfl;{exact hs.all y hy};{rw[l.at_];exact⟨l.small.c,by simpa using l.small.pages,l.small.i,l.small.o⟩}}
theorem bUg{ss:List DSlot}{i:Nat}(hi:i<(M.free ss).length):M.many ss ((M.free ss).getD i default)=0:=by have hm:=bN hi;have key:∀x∈M.free ss,M.many ss x=0:=(by intro x hx;rw[yE]at hx;obtain⟨j,hj,rfl⟩:=List.mem_map.1 hx;exact of_decide_eq_true (qZJ.1 hj).2);exact key _ hm
def M.fr(mem:List Int)(ss:List DSlot)(p:Nat):Int:=(M.free ss).getD (M.used mem p) default
section
variable {mem ws : List Int} {ss : List DSlot} (hu : M.used mem 8 ≤ (M.free ss).length)
include hu
end
theorem pC{xs:List Int}:M.wordsOk xs=true↔∀a,a<xs.length->M.wordOk (xs.getD a default)=true:=by simp only[M.wordsOk,w5];constructor;{intro h a ha;exact h _ (bN ha)};{intro h x hx;obtain⟨i,hi,rfl⟩:=List.mem_iff_getElem.1 hx;have:=h i hi;rwa[aQ hi]at this}
theorem aYz{x:DGuest}{s:DSlot}:∀{gs:List DGuest} {i:Nat},s∈M.slots (gs.set i x)->s∈M.slots gs\/s∈x.Pages
 |[],i,h=>by simp[M.slots]at h
 |g::gs,0,h=>by simp only[List.set_cons_zero,M.slots,qZX,List.mem_append]at h ⊢;rcases h with h|h;{exact .inr h};{exact .inl (.inr h)}
 |g::gs,i+1,h=>by simp only[List.set_cons_succ,M.slots,qZX,List.mem_append]at h ⊢;rcases h with h|h;{exact .inl (.inl h)};{rcases aYz h with h|h;{exact .inl (.inr h)};{exact .inr h}}
end Go.Proofs.YtcgggihjcelmhaaGreat
