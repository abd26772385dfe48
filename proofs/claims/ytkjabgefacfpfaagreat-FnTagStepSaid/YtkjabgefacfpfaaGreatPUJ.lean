/- The plain functions: what they answer. -/
import Derived.Test.YtkjabgefacfpfaaGreatZY
import Derived.Test.YtkjabgefacfpfaaGreatWGX1
import Derived.Laws.Bits64
namespace Go.Proofs.YtkjabgefacfpfaaGreat
set_option linter.all false
theorem oB.{u,v} {α:Type u} {β:Type v} (a:α) (f:α->Option β):(some a).bind f=f a:=rfl
theorem dF{p:Prop}[Decidable p](h:¬p):decide p=false:=decide_eq_false h
theorem dT{p:Prop}[Decidable p](h:p):decide p=true:=decide_eq_true h
theorem cFq.{u} {α:Sort u} (a b:α):cond false a b=b:=rfl
theorem cTq.{u} {α:Sort u} (a b:α):cond true a b=a:=rfl
theorem bT:(!true)=false:=rfl
theorem bF:(!false)=true:=rfl
theorem bA(a b:Bool):((a&&b)=true)=(a=true/\b=true):=Bool.and_eq_true a b
theorem iT(n:Nat):Int.toNat (n:Int)=n:=rfl
theorem iM{a b:Int}(h:0<=a):a.tmod b=a%b:=Int.tmod_eq_emod_of_nonneg h
theorem lS.{u} {α:Type u} {xs:List α} {i:Nat} {a:α}:(xs.set i a).length=xs.length:=List.length_set
theorem bL{α:Type}[Inhabited α]{xs:List α}{i:Nat}(h:i<xs.length):xs.getD i default=xs[i]:=by simp[List.getD,h]
namespace M
def inR(lo hi n:Int):Bool:=decide (lo<=n)&&decide (n<=hi)
def wordOk(n:Int):Bool:=inR 0 4095 n
def wordsOk(xs:List Int):Bool:=xs.all wordOk
def memOk(xs:List Int):Bool:=decide (xs.length=64)&&wordsOk xs
theorem inR_iff{lo hi n:Int}:inR lo hi n=true↔lo<=n/\n<=hi:=by simp[inR]
end M
theorem bRu{b:Bool}{x:Option Bool}{y:Bool}(h:x=some y):(cond b x (some false))=some (b&&y):=by cases b<;>simp[h]
theorem vD{b y:Bool}:(cond b (some y) (some false))=some (b&&y):=by cases b<;>rfl
theorem aEo(n:Int):fK n=some (M.wordOk n):=by unfold fK;rw[vD];rfl
theorem nR(n lo hi:Int):bU n lo hi=some (M.inR lo hi n):=by unfold bU;rw[vD];rfl
theorem sU(n:Int):fH n=some (M.wordOk n):=by unfold fH;rw[nR];rfl
theorem aUf{a b:Int}:decide (a<b+1)=decide (a<=b):=by rw[decide_eq_decide];omega
theorem vN {T:Type} [Inhabited T] {xs:List T} {Pf:T->Option Bool} {p:T->Bool} (hP:∀x,Pf x=some (p x)) (hl:xs.length<=9223372036854775806) (step:Int->Option (LO Int (JO Unit Bool)))
 (hs:∀k,step k=cond (decide (k<((List.length xs:Nat):Int))) (grd ((0:Int)<=k/\k<((List.length xs:Nat):Int)) (Option.bind (Pf (List.getD xs (Int.toNat k) default)) λv=>cond (!v) (some (.ret (.out false))) (some (.next (w64 (k+(1:Int))))))) (some (.ret (.go ())))):
 iter step 0=some (.ret (bif xs.all p then .go ()else .out false)):=by
 have key:∀k:Int,(0<=k/\k<=(xs.length:Int))->iter step k=some (.ret (bif (xs.drop k.toNat).all p then .go ()else .out false)):=by
  refine aYb _ (λk=>xs.length-k.toNat) _ ?_
  rintro k ⟨h0,h1⟩
  by_cases hk:k<xs.length
  · have e1:xs.drop k.toNat=xs.getD k.toNat default::xs.drop (k+1).toNat:=by
     rw[bL (by omega),show(k+1).toNat=k.toNat+1 by omega];exact List.drop_eq_getElem_cons (by omega)
    have hst:step k=cond (!p (xs.getD k.toNat default)) (some (.ret (.out false))) (some (.next (k+1))):=(by rw[hs,dT hk,cTq,aB ⟨h0,hk⟩,hP,aF (by omega) (by omega)];rfl);(cases hp:p (xs.getD k.toNat default)with|true=>refine .inl ⟨k+1,by rw[hst,hp];rfl,⟨by omega,by omega⟩,by omega,?_⟩;rw[e1,List.all_cons,hp,Bool.true_and]|false=>refine .inr ⟨λs'=>by rw[hst,hp];simp,?_⟩;rw[hst,hp,e1,List.all_cons,hp];rfl)
  {have hk2:k=xs.length:=(by omega);have hf:decide (k<((List.length xs:Nat):Int))=false:=(by simp;omega);refine .inr ⟨λs'=>by rw[hs,hf];simp,?_⟩;rw[hs,hf,hk2];simp}
 simpa using key 0 ⟨by omega,by omega⟩
theorem aIy{xs:List Int}(h:xs.length<=9223372036854775806):iB xs=some (M.wordsOk xs):=by unfold iB;rw[vN aEo h (xV xs) (λk=>rfl)];simp only[M.wordsOk];cases xs.all M.wordOk<;>rfl
theorem bPr{xs:List Int}(h:xs.length<=9223372036854775806):uF xs=some (M.memOk xs):=by unfold uF;rw[vN sU h (aBz xs) (λk=>rfl)];simp only[M.memOk,M.wordsOk];cases xs.all M.wordOk;{simp[LO.val,JO.run]};{simp only[LO.val,JO.run,oB,aBv,cTq,Bool.and_true];congr 1;rw[decide_eq_decide];omega}
theorem aTk{xs:List Int}(h:M.memOk xs=true):xs.length=64:=by simp only[M.memOk,bA,decide_eq_true_eq]at h;exact h.1
theorem iD{xs:List Int}(h:M.wordsOk xs=true){i:Nat}(hi:i<xs.length):0<=xs.getD i default/\xs.getD i default<=4095:=by rw[bL hi];exact M.inR_iff.1 (List.all_eq_true.1 h _ (List.getElem_mem hi))
theorem aCf{xs:List Int}(h:M.wordsOk xs=true){i:Nat}{w:Int}(h0:0<=w)(h1:w<=4095):M.wordsOk (xs.set i w)=true:=by refine List.all_eq_true.2 λx hx=>?_;rcases List.mem_or_eq_of_mem_set hx with h2|rfl;{exact List.all_eq_true.1 h x h2};{exact M.inR_iff.2 ⟨h0,h1⟩}
section
variable {T σ S R : Type} [Inhabited T]
theorem sK {xs:List T} {step:S->Option (LO S R)} (enc:σ->Int->S) (p:T->Bool) (g:σ->T->σ) (fin:σ->R) (r:R) (Inv:Nat->σ->Prop)
 (hs:∀(i:Nat) x s,(i:Int)<(xs.length:Int)->x∈xs->xs.getD i default=x->Inv i s->step (enc s i)=some (bif p x then .next (enc (g s x) ((i:Int)+1))else .ret r)/\(p x=true->Inv (i+1) (g s x)))
 (he:∀s,Inv xs.length s->step (enc s xs.length)=some (.ret (fin s))) (s:σ) (hi:Inv 0 s):
 iter step (enc s 0)=some (.ret (bif xs.all p then fin (xs.foldl g s)else r))/\(xs.all p=true->Inv xs.length (xs.foldl g s)):=by
 have key:∀(suf pre:List T) (s:σ),xs=pre++suf->Inv pre.length s->iter step (enc s pre.length)=some (.ret (bif suf.all p then fin (suf.foldl g s)else r))/\(suf.all p=true->Inv xs.length (suf.foldl g s)):=by
  intro suf;induction suf with
  |nil=>intro pre s hx hi;rw[List.append_nil]at hx;subst hx;rw[eN,he s hi];exact⟨rfl,λ_=>hi⟩
  |cons x suf ih=>intro pre s hx hi;obtain⟨h1,h2⟩:=hs pre.length x s (by rw[hx];simp;omega) (by rw[hx];simp) (by rw[hx];simp[List.getD]) hi;rw[eN,h1];(cases hp:p x with|false=>simp[List.all_cons,hp]|true=>obtain⟨g1,g2⟩:=ih (pre++[x]) (g s x) (by rw[hx];simp) (by simpa using h2 hp);simp only[List.length_append,List.length_cons,List.length_nil,Nat.zero_add,Int.natCast_add]at g1;simp only[cTq,List.all_cons,hp,Bool.true_and,List.foldl_cons];exact⟨g1,g2⟩)
 simpa using key xs [] s rfl hi
theorem tA {xs:List T} {step:S->Option (LO S R)} (enc:σ->Int->S) (g:σ->T->σ) (fin:σ->R) (Inv:Nat->σ->Prop)
 (hs:∀(i:Nat) x s,(i:Int)<(xs.length:Int)->x∈xs->xs.getD i default=x->Inv i s->step (enc s i)=some (.next (enc (g s x) ((i:Int)+1)))/\Inv (i+1) (g s x))
 (he:∀s,Inv xs.length s->step (enc s xs.length)=some (.ret (fin s))) (s:σ) (hi:Inv 0 s):
 iter step (enc s 0)=some (.ret (fin (xs.foldl g s)))/\Inv xs.length (xs.foldl g s):=by
 have h:=sK (p:=λ_=>true) enc g fin (fin s) Inv (λi x s h1 h2 h3 h4=>⟨(hs i x s h1 h2 h3 h4).1,λ_=>(hs i x s h1 h2 h3 h4).2⟩) he s hi;have e:xs.all (λ_=>true)=true:=(by simp);rw[e]at h;exact⟨h.1,h.2 rfl⟩
theorem aFm {n:Nat} {step:S->Option (LO S R)} (enc:σ->Int->S) (g:σ->Nat->σ) (fin:σ->R) (Inv:Nat->σ->Prop)
 (hs:∀(i:Nat) s,i<n->Inv i s->step (enc s i)=some (.next (enc (g s i) ((i:Int)+1)))/\Inv (i+1) (g s i))
 (he:∀s,Inv n s->step (enc s n)=some (.ret (fin s))) (s:σ) (hi:Inv 0 s):
 iter step (enc s 0)=some (.ret (fin ((List.range n).foldl g s)))/\Inv n ((List.range n).foldl g s):=by
 have h:=tA (xs:=List.range n) enc g fin Inv (λi x s h1 h2 h3 h4=>by have hi:i<n:=(by simpa using h1);have:x=i:=(by rw[<-h3];simp[List.getD,hi]);subst this;exact hs x s hi h4) (by simpa using he) s hi;simpa using h
theorem bIr {n:Nat} {step:S->Option (LO S R)} (enc:Int->S) (p:Nat->Bool) (a r:R)
 (hs:∀(i:Nat),i<n->step (enc i)=some (bif p i then .next (enc ((i:Int)+1))else .ret r))
 (he:step (enc n)=some (.ret a)):
 iter step (enc 0)=some (.ret (bif (List.range n).all p then a else r)):=by
 have h:=sK (xs:=List.range n) (σ:=Unit) (λ_ k=>enc k) p (λ_ _=>()) (λ_=>a) r (λ_ _=>True) (λi x s h1 h2 h3 h4=>by have hi:i<n:=(by simpa using h1);have:x=i:=(by rw[<-h3];simp[List.getD,hi]);subst this;exact⟨hs x hi,λ_=>trivial⟩) (λs _=>by simpa using he) () trivial;exact h.1
theorem jT {n:Nat} {step:S->Option (LO S R)} (st:Nat->S) (ok:Nat->Bool) (a r:R)
 (hs:∀(i:Nat),i<n->(∀j,j<i->ok j=true)->step (st i)=some (bif ok i then .next (st (i+1))else .ret r))
 (he:(∀j,j<n->ok j=true)->step (st n)=some (.ret a)):
 iter step (st 0)=some (.ret (bif (List.range n).all ok then a else r)):=by
 have key:∀m i,i+m=n->(∀j,j<i->ok j=true)->iter step (st i)=some (.ret (bif (List.range n).all ok then a else r)):=by
  intro m;induction m with
  |zero=>intro i hi ho;have:i=n:=(by omega);subst this;have e:(List.range i).all ok=true:=(by simp only[List.all_eq_true,List.mem_range];exact ho);rw[eN,he ho,e];rfl
  |succ m ih=>intro i hi ho;rw[eN,hs i (by omega) ho];(cases e:ok i with|true=>refine ih (i+1) (by omega) ?_;intro j hj;by_cases h:j=i;{rw[h,e]};{exact ho j (by omega)}|false=>have e2:(List.range n).all ok=false:=(by rw[List.all_eq_false];exact⟨i,by rw[List.mem_range];omega,by rw[e];simp⟩);rw[e2];rfl)
 exact key n 0 (by omega) λj hj=>by omega
end
theorem qR{α β σ:Type}{f:α->List β}{g:σ->β->σ}:∀{xs:List α} {s:σ},xs.foldl (λs x=>(f x).foldl g s) s=(xs.flatMap f).foldl g s
 |[],_=>rfl
 |x::xs,s=>by simp only[List.foldl_cons,List.flatMap_cons,List.foldl_append];exact qR
theorem aZq(n:Int):cP n=some (M.inR 0 63 n):=by unfold cP;rw[vD,show(64:Int)=63+1 from rfl,aUf];rfl
theorem aBa(n:Int):gK n=some (M.inR 0 7 n):=by unfold gK;rw[vD,show(8:Int)=7+1 from rfl,aUf];rfl
theorem bMb(n:Int):kZ n=some (M.inR (-1) 7 n):=by unfold kZ;rw[aBa];by_cases h:n=-1;{subst h;rfl};{rw[dF h];show some (M.inR 0 7 n)=_;congr 1;simp only[M.inR];congr 1;rw[decide_eq_decide];omega}
noncomputable instance:DecidableEq DCore:=λa b=>Classical.propDecidable (a=b)
noncomputable instance:DecidableEq DBare:=λa b=>Classical.propDecidable (a=b)
namespace M
def coreOk(c:DCore):Bool:=decide (c.Regs.length=4)&&wordsOk c.Regs&&(inR 0 63 c.Pc&&inR 0 63 c.Vector&&inR 0 63 c.Saved&&inR 0 63 c.Bad)&&inR (-1) 7 c.Root&&inR 0 4 c.Cause&&wordOk c.Timer
def rowOk(xs:List Int):Bool:=decide (xs.length<=30)&&wordsOk xs
def bareOk(b:DBare):Bool:=coreOk b.C&&memOk b.Mem&&rowOk b.In&&rowOk b.Out
end M
theorem bBa{xs:List Int}(h:xs.length<=9223372036854775806):kD xs=some (M.rowOk xs):=by unfold kD;rw[aIy h];show cond _ (some _) (some false)=_;rw[vD];simp only[M.rowOk];congr 2;rw[decide_eq_decide];omega
theorem aJx{xs:List Int}(h:xs.length<=9223372036854775806):dZ xs 30=some (M.rowOk xs):=by unfold dZ;rw[vN sU h (rL xs) (λk=>rfl)];simp only[M.rowOk,M.wordsOk];cases xs.all M.wordOk;{simp[LO.val,JO.run]};{simp only[LO.val,JO.run,oB,rM,cTq,Bool.and_true];congr 1;rw[decide_eq_decide];omega}
theorem bMs{c:DCore}(h:c.Regs.length<=9223372036854775806):nT c=some (M.coreOk c):=by unfold nT;simp only[aIy h,aZq,bMb,aEo,oB];have e4:decide (((c.Regs.length:Nat):Int)=4)=decide (c.Regs.length=4):=(by rw[decide_eq_decide];omega);rw[e4];simp only[M.coreOk,M.inR];generalize decide (c.Regs.length=4)=b0;generalize M.wordsOk c.Regs=b1;generalize(decide (0<=c.Pc)&&decide (c.Pc<=63))=b2;generalize(decide (0<=c.Vector)&&decide (c.Vector<=63))=b3;generalize(decide (0<=c.Saved)&&decide (c.Saved<=63))=b4;generalize(decide (0<=c.Bad)&&decide (c.Bad<=63))=b5;generalize(decide (-1<=c.Root)&&decide (c.Root<=7))=b6;generalize decide (0<=c.Cause)=b7;generalize decide (c.Cause<=4)=b8;generalize M.wordOk c.Timer=b9;cases b0<;>cases b2<;>cases b3<;>cases b4<;>cases b7<;>cases b1<;>cases b5<;>cases b6<;>cases b8<;>rfl
theorem aYm{c:DCore}(h:c.Regs.length<=9223372036854775806):kW c=some (M.coreOk c):=by unfold kW;rw[vN sU h (zS c) (λk=>rfl)];simp only[M.coreOk,M.wordsOk];cases c.Regs.all M.wordOk;{simp[LO.val,JO.run]};{simp only[LO.val,JO.run,oB,zN,cTq,Bool.and_true,nR,sU];have e4:decide (((c.Regs.length:Nat):Int)=4)=decide (c.Regs.length=4):=(by rw[decide_eq_decide];omega);rw[e4];generalize decide (c.Regs.length=4)=b0;generalize M.inR 0 63 c.Pc=b2;generalize M.inR 0 63 c.Vector=b3;generalize M.inR 0 63 c.Saved=b4;generalize M.inR 0 63 c.Bad=b5;generalize M.inR (-1) 7 c.Root=b6;generalize M.inR 0 4 c.Cause=b7;generalize M.wordOk c.Timer=b9;cases b0<;>cases b2<;>cases b3<;>cases b4<;>cases b7<;>cases b5<;>cases b6<;>rfl}
structure SmallC (c : DCore) : Prop where
 regs:c.Regs.length<=1048576
structure SmallB (b : DBare) : Prop where
 c:SmallC b.C
 mem:b.Mem.length<=1048576
 i:b.In.length<=1048576
 o:b.Out.length<=1048576
theorem bLi{b:DBare}(h:SmallB b):sF b=some (M.bareOk b):=by have:=h.c.regs;have:=h.mem;have:=h.i;have:=h.o;unfold sF;simp only[aYm (show b.C.Regs.length<=9223372036854775806 by omega),bPr (show b.Mem.length<=9223372036854775806 by omega),aJx (show b.In.length<=9223372036854775806 by omega),aJx (show b.Out.length<=9223372036854775806 by omega),oB,M.bareOk];cases M.coreOk b.C<;>cases M.memOk b.Mem<;>cases M.rowOk b.In<;>rfl
noncomputable instance:DecidableEq DSlot:=λa b=>Classical.propDecidable (a=b)
noncomputable instance:DecidableEq DGuest:=λa b=>Classical.propDecidable (a=b)
noncomputable instance:DecidableEq DHost:=λa b=>Classical.propDecidable (a=b)
structure SmallG (g : DGuest) : Prop where
 c:SmallC g.C
 pages:g.Pages.length<=1048576
 i:g.In.length<=1048576
 o:g.Out.length<=1048576
structure SmallH (h : DHost) : Prop where
 words:h.Words.length<=1048576
 guests:h.Guests.length<=1048576
 all:∀g∈h.Guests,SmallG g
theorem cX{T:Type}[Inhabited T]{xs:List T}{k:Nat}(h:k<xs.length):xs.getD k default∈xs:=by rw[bL h];exact List.getElem_mem _
namespace M
def noCore:DCore:=⟨[],0,0,0,0,false,0,0,0,false,false,false,false⟩
def noGuest:DGuest:=⟨false,noCore,[],[],[]⟩
def slotOk(s:DSlot):Bool:=bif decide (s.Frame=-1)then !s.Write&&!s.Dirty else decide (0<=s.Frame)&&decide (s.Frame<20)
noncomputable def guestOk (g:DGuest):Bool:=bif g.Live then coreOk g.C&&(decide (g.Pages.length=8)&&g.Pages.all slotOk)&&rowOk g.In&&rowOk g.Out else decide (g=noGuest)
def slots(gs:List DGuest):List DSlot:=gs.flatMap (·.Pages)
def many(ss:List DSlot)(f:Int):Nat:=ss.countP λs=>decide (s.Frame=f)
def alone(ss:List DSlot):Bool:=ss.all λs=>!s.Write||decide (many ss s.Frame<=1)
def bump(xs:List Int)(s:DSlot):List Int:=bif decide (s.Frame=-1)then xs else xs.set s.Frame.toNat (xs.getD s.Frame.toNat default+1)
def takers(ss:List DSlot):List Int:=ss.foldl bump (List.replicate 20 0)
noncomputable def hostOk (h:DHost):Bool:=decide (h.Words.length=160)&&wordsOk h.Words&&(decide (h.Guests.length=3)&&h.Guests.all guestOk)&&alone (slots h.Guests)
end M
theorem bNd(s:DSlot):sE s=some (M.slotOk s):=by unfold sE M.slotOk;by_cases h:s.Frame=-1;{rw[dT h];cases s.Write<;>rfl};{rw[dF h];simp only[cFq];exact vD}
theorem bIu{xs:List DSlot}(h:xs.length<=9223372036854775806):qC xs=some (decide (xs.length=8)&&xs.all M.slotOk):=by unfold qC;by_cases hl:xs.length=8;{have:decide (((xs.length:Nat):Int)=8)=true:=(by simp;omega);rw[this,bT,cFq,vN bNd h (yJ xs) (λk=>rfl),dT hl];cases xs.all M.slotOk<;>rfl};{have:decide (((xs.length:Nat):Int)=8)=false:=(by simp;omega);rw[this,dF hl];rfl}
theorem dbe{a b:Bool}(h:a=true↔b=true):a=b:=Bool.eq_iff_iff.2 h
theorem bFm(c:DCore):oW c=some (decide (c=M.noCore)):=by obtain⟨a1,a2,a3,a4,a5,a6,a7,a8,a9,a10,a11,a12,a13⟩:=c;unfold oW;simp only[];by_cases h2:a2=0;{by_cases h3:a3=0;{by_cases h4:a4=0;{by_cases h5:a5=0;{by_cases h1:a1=[];{by_cases h8:a8=0;{by_cases h7:a7=0;{by_cases h9:a9=0;{subst h1 h2 h3 h4 h5 h7 h8 h9;cases a6<;>cases a10<;>cases a11<;>cases a12<;>cases a13<;>simp[M.noCore]};{rw[dF (p:=DCore.mk _ _ _ _ _ _ _ _ _ _ _ _ _=M.noCore) (by simp[M.noCore,h9])];simp only[dF h9];cases a6<;>cases a10<;>cases a11<;>cases a12<;>simp}};{rw[dF (p:=DCore.mk _ _ _ _ _ _ _ _ _ _ _ _ _=M.noCore) (by simp[M.noCore,h7])];simp only[dF h7];cases a6<;>cases a10<;>cases a11<;>cases a12<;>simp}};{rw[dF (p:=DCore.mk _ _ _ _ _ _ _ _ _ _ _ _ _=M.noCore) (by simp[M.noCore,h8])];simp only[dF h8];cases a6<;>cases a10<;>cases a11<;>cases a12<;>simp}};{rw[dF (p:=DCore.mk _ _ _ _ _ _ _ _ _ _ _ _ _=M.noCore) (by simp[M.noCore,h1])];have:decide (((a1.length:Nat):Int)=0)=false:=(by simp[h1]);simp only[this];cases a6<;>cases a10<;>cases a11<;>cases a12<;>simp}};{rw[dF (p:=DCore.mk _ _ _ _ _ _ _ _ _ _ _ _ _=M.noCore) (by simp[M.noCore,h5])];simp only[dF h5];cases a6<;>cases a10<;>cases a11<;>cases a12<;>simp}};{rw[dF (p:=DCore.mk _ _ _ _ _ _ _ _ _ _ _ _ _=M.noCore) (by simp[M.noCore,h4])];simp only[dF h4];cases a6<;>cases a10<;>cases a11<;>cases a12<;>simp}};{rw[dF (p:=DCore.mk _ _ _ _ _ _ _ _ _ _ _ _ _=M.noCore) (by simp[M.noCore,h3])];simp only[dF h3];cases a6<;>cases a10<;>cases a11<;>cases a12<;>simp}};{rw[dF (p:=DCore.mk _ _ _ _ _ _ _ _ _ _ _ _ _=M.noCore) (by simp[M.noCore,h2])];simp only[dF h2];cases a6<;>cases a10<;>cases a11<;>cases a12<;>simp}
theorem aYy{g:DGuest}(hl:g.Live=false):mF g=some (decide (g=M.noGuest)):=by unfold mF;rw[bFm,oB];obtain⟨l,c,p,i,o⟩:=g;simp only at hl;subst hl;simp only[M.noGuest,DGuest.mk.injEq,true_and];by_cases h1:c=M.noCore<;>by_cases h2:p=[]<;>by_cases h3:i=[]<;>by_cases h4:o=[]<;>simp[h1,h2,h3,h4]
theorem bTx{g:DGuest}(hl:g.Live=false):oD g=some (decide (g=M.noGuest)):=by
 unfold oD;obtain⟨l,⟨a1,a2,a3,a4,a5,a6,a7,a8,a9,a10,a11,a12,a13⟩,p,i,o⟩:=g;simp only at hl;subst hl;simp only[bRu rfl,vD];congr 1;apply dbe;simp only[bA,decide_eq_true_eq,Bool.not_eq_true',M.noGuest,M.noCore,DGuest.mk.injEq,DCore.mk.injEq,true_and,Int.natCast_eq_zero,List.length_eq_zero_iff];constructor
 · rintro⟨h1,h2,h3,h4,h5,h6,h7,h8,h9,h10,h11,h12,h13,h14,h15,h16⟩;exact⟨⟨h1,h2,h3,h4,h5,h6,h7,h8,h9,h10,h11,h12,h13⟩,h14,h15,h16⟩
 · rintro⟨⟨h1,h2,h3,h4,h5,h6,h7,h8,h9,h10,h11,h12,h13⟩,h14,h15,h16⟩;exact⟨h1,h2,h3,h4,h5,h6,h7,h8,h9,h10,h11,h12,h13,h14,h15,h16⟩
theorem bGn{g:DGuest}(h:SmallG g):mN g=some (M.guestOk g):=by have:=h.c.regs;have:=h.pages;have:=h.i;have:=h.o;unfold mN M.guestOk;(cases hl:g.Live with|false=>simp only[bF,cTq,aYy hl,oB,cFq]|true=>simp only[bT,cFq,cTq];rw[bMs (by omega),bIu (by omega),bBa (by omega),bBa (by omega)];simp only[oB];cases M.coreOk g.C<;>cases(decide (g.Pages.length=8)&&g.Pages.all M.slotOk)<;>cases M.rowOk g.In<;>rfl)
theorem bFi{gs:List DGuest}(hl:gs.length<=1048576)(h:∀g∈gs,SmallG g):oX gs=some (decide (gs.length=3)&&gs.all M.guestOk):=by
 unfold oX;by_cases hl:gs.length=3
 · have:decide (((gs.length:Nat):Int)=3)=true:=by simp;omega
   rw[this,bT,cFq,dT hl,Bool.true_and]
   have key:=(sK (xs:=gs) (σ:=Unit) (step:=lO gs) (λ_ k=>k) M.guestOk (λ_ _=>()) (λ_=>JO.go ()) (.out false) (λ_ _=>True) (λi x s h1 h2 h3 h4=>by
    refine⟨?_,λ_=>trivial⟩;simp only[lO,dT h1,cTq];rw[aB ⟨by omega,h1⟩,iT,h3];show Option.bind (mN x) _=_;rw[bGn (h x h2),oB,aF (by omega) (by omega)];cases M.guestOk x<;>rfl) (λs _=>by
    simp only[lO];rw[dF (by omega),cFq]) () trivial).1
   rw[key];cases gs.all M.guestOk<;>rfl
 {have:decide (((gs.length:Nat):Int)=3)=false:=(by simp;omega);rw[this,dF hl];rfl}
theorem uZ{xs:List Int}{i j:Nat}{v:Int}(hi:i<xs.length):(xs.set i v).getD j default=if i=j then v else xs.getD j default:=by by_cases h:i=j;{subst h;simp[List.getD,hi]};{simp[List.getD,List.getElem?_set,h]}
theorem aVs{xs:List Int}{s:DSlot}:(M.bump xs s).length=xs.length:=by unfold M.bump;cases decide (s.Frame=-1)<;>simp
theorem jQ{s:DSlot}(h:M.slotOk s=true):-1<=s.Frame/\s.Frame<20:=by unfold M.slotOk at h;by_cases e:s.Frame=-1;{omega};{rw[dF e,cFq,bA,decide_eq_true_eq,decide_eq_true_eq]at h;omega}
theorem aVr{xs:List Int}{s:DSlot}(hl:xs.length=20)(h:M.slotOk s=true){f:Nat}(hf:f<20):(M.bump xs s).getD f default=xs.getD f default+(if s.Frame=(f:Int)then 1 else 0):=by have hr:=jQ h;unfold M.bump;by_cases e:s.Frame=-1;{rw[dT e,cTq,if_neg (by omega)];omega};{rw[dF e,cFq,uZ (by omega)];by_cases e2:s.Frame=(f:Int);{rw[if_pos (by omega),if_pos e2];congr 2;omega};{rw[if_neg (by omega),if_neg e2];omega}}
theorem wD{s:DSlot}{ss:List DSlot}{f:Int}:M.many (s::ss) f=M.many ss f+(if s.Frame=f then 1 else 0):=by simp only[M.many,List.countP_cons,decide_eq_true_eq]
theorem aIl{f:Nat}(hf:f<20):∀{ss:List DSlot} {xs:List Int},xs.length=20->ss.all M.slotOk=true->(ss.foldl M.bump xs).length=20/\(ss.foldl M.bump xs).getD f default=xs.getD f default+(M.many ss f:Int)
 |[],xs,hl,_=>⟨hl,by simp[M.many]⟩
 |s::ss,xs,hl,h=>by rw[List.all_cons,bA]at h;obtain⟨h1,h2⟩:=aIl hf (ss:=ss) (xs:=M.bump xs s) (by rw[aVs,hl]) h.2;refine⟨h1,?_⟩;rw[List.foldl_cons,h2,aVr hl h.1 hf,wD];split<;>simp<;>omega
theorem qM{ss:List DSlot}(h:ss.all M.slotOk=true):(M.takers ss).length=20:=(aIl (f:=0) (by omega) (xs:=List.replicate 20 0) (by simp) h).1
theorem uN{ss:List DSlot}(h:ss.all M.slotOk=true){f:Nat}(hf:f<20):(M.takers ss).getD f default=(M.many ss f:Int):=by unfold M.takers;rw[(aIl (f:=f) hf (xs:=List.replicate 20 0) (by simp) h).2];have:(List.replicate 20 (0:Int)).getD f default=0:=(by rw[bL (by rw[List.length_replicate];omega),List.getElem_replicate]);omega
theorem lY{g:DGuest}(h:M.guestOk g=true):g.Pages.all M.slotOk=true/\g.Pages.length<=8:=by unfold M.guestOk at h;(cases hl:g.Live with|true=>rw[hl,cTq]at h;simp only[bA,decide_eq_true_eq]at h;exact⟨h.1.1.2.2,by omega⟩|false=>rw[hl,cFq,decide_eq_true_eq]at h;rw[h];exact⟨rfl,by simp[M.noGuest]⟩)
theorem tH{gs:List DGuest}(h:gs.all M.guestOk=true):(M.slots gs).all M.slotOk=true:=by simp only[M.slots,List.all_flatMap,List.all_eq_true]at h ⊢;exact λg hg=>List.all_eq_true.1 (lY (h g hg)).1
structure Tl (B : Nat) (xs : List Int) : Prop where
 len:xs.length=20
 low:∀i,i<20->0<=xs.getD i default
 top:∀i,i<20->xs.getD i default<=(B:Int)
theorem Tl.mono{B C:Nat}{xs:List Int}(h:Tl B xs)(hB:B<=C):Tl C xs:=⟨h.len,h.low,λi hi=>by have:=h.top i hi;omega⟩
theorem Tl.bump{B:Nat}{xs:List Int}{s:DSlot}(h:Tl B xs)(hs:M.slotOk s=true):Tl (B+1) (M.bump xs s):=by refine⟨by rw[aVs,h.len],λi hi=>?_,λi hi=>?_⟩;all_goals rw[aVr h.len hs hi];have:=h.low i hi;have:=h.top i hi;split<;>omega
theorem Tl.zero:Tl 0 (List.replicate 20 0):=by refine⟨by simp,λi hi=>?_,λi hi=>?_⟩;all_goals rw[bL (by rw[List.length_replicate];omega),List.getElem_replicate];omega
theorem bQu{xs:List Int}{s:DSlot}{B:Nat}(hs:M.slotOk s=true)(ht:Tl B xs)(hB:B<=1000000000){Y:Type}:(cond (!decide (s.Frame=(-1:Int))) (grd ((0:Int)<=s.Frame/\s.Frame<((xs.length:Nat):Int)) (grd ((0:Int)<=s.Frame/\s.Frame<((xs.length:Nat):Int)) (some (JO.go (List.set xs (Int.toNat s.Frame) (w64 ((List.getD xs (Int.toNat s.Frame) default)+(1:Int)))))))) (some (JO.go xs)):Option (JO (List Int) Y))=some (.go (M.bump xs s)):=by have hr:=jQ hs;have hl:=ht.len;unfold M.bump;by_cases e:s.Frame=-1;{rw[dT e];rfl};{rw[dF e];have h1:=ht.low s.Frame.toNat (by omega);have h2:=ht.top s.Frame.toNat (by omega);rw[bF,cTq,cFq,aB ⟨by omega,by omega⟩,aB ⟨by omega,by omega⟩,aF (by omega) (by omega)]}
theorem aMn{gs:List DGuest}(hl:gs.length<=1048576)(h:gs.all M.guestOk=true):fT gs=some (M.takers (M.slots gs)):=by
 have hin:∀(k:Nat) (g:DGuest) (xs:List Int) (h1:(k:Int)<(gs.length:Int)) (h2:g∈gs) (h3:gs.getD k default=g) (h4:Tl (8*k) xs),
  iter (fQ gs (xs,(k:Int))) (xs,0)=some (.ret (.go (g.Pages.foldl M.bump xs)))/\Tl (8*k+g.Pages.length) (g.Pages.foldl M.bump xs):=by
  intro k g xs h1 h2 h3 h4;obtain⟨g1,g2⟩:=lY (List.all_eq_true.1 h g h2)
  exact tA (xs:=g.Pages) (step:=fQ gs (xs,(k:Int))) (λs j=>(s,j)) M.bump (λs=> .go s) (λj s=>Tl (8*k+j) s) (λj x s a1 a2 a3 a4=>by
   refine⟨?_,a4.bump (List.all_eq_true.1 g1 x a2)⟩;simp only[fQ,iT,h3,dT a1,cTq];rw[aB ⟨by omega,a1⟩,a3,bQu (List.all_eq_true.1 g1 x a2) a4 (by omega),oB];simp only[JO.run,tF];rw[aF (by omega) (by omega)]) (λs _=>by
   simp only[fQ,iT,h3];rw[dF (by omega),cFq]) xs h4
 have key:=(tA (xs:=gs) (step:=iS gs) (λs j=>(s,j)) (λs g=>g.Pages.foldl M.bump s) (λs=> .go s) (λk s=>Tl (8*k) s) (λk g s a1 a2 a3 a4=>by
  obtain⟨b1,b2⟩:=hin k g s a1 a2 a3 a4;refine⟨?_,b2.mono (by have:=(lY (List.all_eq_true.1 h g a2)).2;omega)⟩;simp only[iS,dT a1,cTq];rw[aB ⟨by omega,a1⟩,b1];simp only[oB,LO.val,JO.run,sY];rw[aF (by omega) (by omega)]) (λs _=>by
  simp only[iS];rw[dF (by omega),cFq]) (List.replicate 20 0) (Tl.zero.mono (by omega))).1
 unfold fT;rw[show Int.toNat (20:Int)=20 from rfl,key];simp only[oB,LO.val,JO.run,tB];rw[qR];rfl
theorem bQr{gs:List DGuest}(hl:gs.length<=1048576)(h:gs.all M.guestOk=true)(hwr:True):iC gs=some (M.alone (M.slots gs)):=by
 unfold iC;rw[aMn hl h,oB];have hs:=tH h
 have hin:∀(k:Nat) (g:DGuest) (h1:(k:Int)<(gs.length:Int)) (h2:g∈gs) (h3:gs.getD k default=g),
  iter (eH gs (M.takers (M.slots gs)) (k:Int)) 0=some (.ret (bif g.Pages.all (λs=>!s.Write||decide (M.many (M.slots gs) s.Frame<=1))then .go ()else .out (.ret (.out false)))):=by
  intro k g h1 h2 h3;obtain⟨g1,g2⟩:=lY (List.all_eq_true.1 h g h2)
  exact(sK (xs:=g.Pages) (σ:=Unit) (step:=eH gs (M.takers (M.slots gs)) (k:Int)) (λ_ j=>j) _ (λ_ _=>()) (λ_=>JO.go ()) _ (λ_ _=>True) (λj x s a1 a2 a3 _=>by
   refine⟨?_,λ_=>trivial⟩;have hx:=List.all_eq_true.1 g1 x a2;have hr:=jQ hx;simp only[eH,iT,h3,dT a1,cTq,a3];rw[aB ⟨by omega,a1⟩];cases hw:x.Write with
   |false=>simp only[cFq,oB,JO.run,jO,bF,Bool.true_or,cTq];rw[aF (by omega) (by omega)]
   |true=>
    have hf:x.Frame≠-1:=λe=>by unfold M.slotOk at hx;rw[dT e,hw]at hx;simp at hx
    have hlt:=qM hs;simp only[cTq];rw[aB ⟨by omega,by omega⟩,uN hs (by omega),show((x.Frame.toNat:Nat):Int)=x.Frame by omega];by_cases e:M.many (M.slots gs) x.Frame<=1;{rw[dF (by omega),dT e];simp only[cFq,oB,JO.run,jO,bT,Bool.false_or,cTq];rw[aF (by omega) (by omega)]}
    · rw[dT (by omega),dF e];rfl) (λs _=>by
   simp only[eH,iT,h3];rw[dF (by omega),cFq]) () trivial).1
 have key:=(sK (xs:=gs) (σ:=Unit) (step:=fV gs (M.takers (M.slots gs))) (λ_ j=>j) (λg=>g.Pages.all (λs=>!s.Write||decide (M.many (M.slots gs) s.Frame<=1))) (λ_ _=>()) (λ_=>JO.go ()) (.out false) (λ_ _=>True) (λk g s a1 a2 a3 _=>by
  refine⟨?_,λ_=>trivial⟩;simp only[fV,dT a1,cTq];rw[aB ⟨by omega,a1⟩,hin k g a1 a2 a3];cases g.Pages.all (λs=>!s.Write||decide (M.many (M.slots gs) s.Frame<=1))with
  |false=>rfl
  |true=>simp only[cTq,oB,LO.val,JO.run,oU];rw[aF (by omega) (by omega)]) (λs _=>by
  simp only[fV];rw[dF (by omega),cFq]) () trivial).1
 rw[key]
 have e:M.alone (M.slots gs)=gs.all (λg=>g.Pages.all (λs=>!s.Write||decide (M.many (M.slots gs) s.Frame<=1))):=by
  simp only[M.alone]
  conv=>lhs;arg 1;unfold M.slots
  rw[List.all_flatMap]
 rw[e];cases gs.all (λg=>g.Pages.all (λs=>!s.Write||decide (M.many (M.slots gs) s.Frame<=1)))<;>rfl
theorem aVy{h:DHost}(hs:SmallH h):nW h=some (M.hostOk h):=by have:=hs.words;unfold nW M.hostOk;by_cases hl:h.Words.length=160;{rw[show decide (((h.Words.length:Nat):Int)=160)=true by simp;omega,cTq,aIy (by omega),dT hl,oB];(cases M.wordsOk h.Words with|false=>rfl|true=>rw[cTq,bFi hs.guests hs.all,oB];(cases hg:(decide (h.Guests.length=3)&&h.Guests.all M.guestOk)with|false=>rfl|true=>rw[bA]at hg;rw[cTq,bQr hs.guests hg.2 trivial];rfl))};{rw[show decide (((h.Words.length:Nat):Int)=160)=false by simp;omega,dF hl];rfl}
theorem bNi{xs:List Int}{n:Int}(h:xs.length<=9223372036854775806):dZ xs n=some (decide ((xs.length:Int)<=n)&&M.wordsOk xs):=by unfold dZ;rw[vN sU h (rL xs) (λk=>rfl)];simp only[M.wordsOk];cases xs.all M.wordOk;{simp[LO.val,JO.run]};{simp only[LO.val,JO.run,oB,rM,cTq,Bool.and_true]}
namespace M
def bumpW(ws:List Bool)(s:DSlot):List Bool:=bif decide (s.Frame=-1)then ws else ws.set s.Frame.toNat (ws.getD s.Frame.toNat default||s.Write)
def bump2(p:List Int×List Bool)(s:DSlot):List Int×List Bool:=(bump p.1 s,bumpW p.2 s)
end M
theorem bLk{xs:List Bool}{i j:Nat}{v:Bool}(hi:i<xs.length):(xs.set i v).getD j default=if i=j then v else xs.getD j default:=by by_cases h:i=j;{subst h;simp[List.getD,hi]};{simp[List.getD,List.getElem?_set,h]}
theorem aTi{xs:List Bool}{s:DSlot}:(M.bumpW xs s).length=xs.length:=by unfold M.bumpW;cases decide (s.Frame=-1)<;>simp
theorem bKf{xs:List Bool}{s:DSlot}(hl:xs.length=20)(h:M.slotOk s=true){f:Nat}(hf:f<20):(M.bumpW xs s).getD f default=(xs.getD f default||(decide (s.Frame=(f:Int))&&s.Write)):=by have hr:=jQ h;unfold M.bumpW;by_cases e:s.Frame=-1;{rw[dT e,cTq,dF (by omega)];simp};{rw[dF e,cFq,bLk (by omega)];by_cases e2:s.Frame=(f:Int);{rw[if_pos (by omega),dT e2,Bool.true_and];congr 2;omega};{rw[if_neg (by omega),dF e2];simp}}
theorem aTu:∀{ss:List DSlot} {p:List Int×List Bool},(ss.foldl M.bump2 p).1=ss.foldl M.bump p.1
 |[],_=>rfl
 |s::ss,p=>by rw[List.foldl_cons,aTu];rfl
theorem aTh{f:Nat}(hf:f<20):∀{ss:List DSlot} {p:List Int×List Bool},p.2.length=20->ss.all M.slotOk=true->(ss.foldl M.bump2 p).2.length=20/\(ss.foldl M.bump2 p).2.getD f default=(p.2.getD f default||ss.any λs=>decide (s.Frame=(f:Int))&&s.Write)
 |[],p,hl,_=>⟨hl,by simp⟩
 |s::ss,p,hl,h=>by rw[List.all_cons,bA]at h;obtain⟨h1,h2⟩:=aTh hf (ss:=ss) (p:=M.bump2 p s) (by simpa[M.bump2,aTi]using hl) h.2;refine⟨h1,?_⟩;rw[List.foldl_cons,h2,List.any_cons];simp only[M.bump2];rw[bKf hl h.1 hf,Bool.or_assoc]
structure Tw (B : Nat) (p : List Int × List Bool) : Prop where
 tl:Tl B p.1
 len:p.2.length=20
theorem Tw.bump{B:Nat}{p:List Int×List Bool}{s:DSlot}(h:Tw B p)(hs:M.slotOk s=true):Tw (B+1) (M.bump2 p s):=⟨h.tl.bump hs,by simp[M.bump2,aTi,h.len]⟩
theorem bAu{h:DHost}{k:Nat}{g:DGuest}{p:List Int×List Bool}{B:Nat}(hl:g.Pages.length<=8)(h3:h.Guests.getD k default=g)(ht:Tw B p)(hB:B<=1000000):
 iter (jF h (p.1,p.2,(k:Int))) (p.1,p.2,0)=some (.ret (bif g.Pages.all M.slotOk then .go ((g.Pages.foldl M.bump2 p).1,(g.Pages.foldl M.bump2 p).2)else .out (.ret (.out false))))/\(g.Pages.all M.slotOk=true->Tw (B+g.Pages.length) (g.Pages.foldl M.bump2 p)):=by
 exact sK (xs:=g.Pages) (step:=jF h (p.1,p.2,(k:Int))) (λs j=>(s.1,s.2,j)) M.slotOk M.bump2 (λs=> .go (s.1,s.2)) (.out (.ret (.out false))) (λj s=>Tw (B+j) s) (λj x s a1 a2 a3 a4=>by
  refine⟨?_,λhx=>a4.bump hx⟩;simp only[jF,iT,h3,dT a1,cTq,a3];rw[aB ⟨by omega,a1⟩,nR,oB];have hgo:M.slotOk x=true->rF h (p.1,p.2,(k:Int)) (s.1,s.2,(j:Int)) ()=some (.go ((M.bump2 s x).2,(M.bump2 s x).1)):=λhx=>by have hr:=jQ hx;have hl1:=a4.tl.len;have hl2:=a4.len;simp only[rF,iT,h3,a3,M.bump2,M.bump,M.bumpW];by_cases e:x.Frame=-1;{rw[dF (p:=(0:Int)<=x.Frame) (by omega),dT e];rfl};{have q1:=a4.tl.low x.Frame.toNat (by omega);have q2:=a4.tl.top x.Frame.toNat (by omega);rw[dT (p:=(0:Int)<=x.Frame) (by omega),dF e];simp only[cTq,cFq];rw[aB ⟨by omega,by omega⟩,aB ⟨by omega,by omega⟩,aB ⟨by omega,by omega⟩,aF (by omega) (by omega)];(cases hw:s.2.getD x.Frame.toNat default with|true=>rw[cTq,aB ⟨by omega,by omega⟩,Bool.true_or]|false=>rw[cFq,aB ⟨by omega,by omega⟩,Bool.false_or])}
  by_cases e:x.Frame=-1;{have hin:M.inR (-1) 19 x.Frame=true:=(by rw[M.inR_iff];omega);rw[hin,bT,cFq,dT e,cTq];(cases hw:x.Write with|true=>have:M.slotOk x=false:=(by unfold M.slotOk;rw[dT e,hw];rfl);rw[this];rfl|false=>(cases hd:x.Dirty with|true=>have:M.slotOk x=false:=(by unfold M.slotOk;rw[dT e,hw,hd];rfl);rw[this];rfl|false=>have hx:M.slotOk x=true:=(by unfold M.slotOk;rw[dT e,hw,hd];rfl);rw[hx];simp only[cFq,oB,JO.run,hgo hx,rE,cTq];rw[aF (by omega) (by omega)]))}
  · by_cases hin:M.inR (-1) 19 x.Frame=true
    {have hr:=M.inR_iff.1 hin;have hx:M.slotOk x=true:=(by unfold M.slotOk;rw[dF e,cFq,bA,decide_eq_true_eq,decide_eq_true_eq];omega);rw[hin,bT,cFq,dF e,cFq,hx];simp only[oB,JO.run,hgo hx,rE,cTq];rw[aF (by omega) (by omega)]}
    · have hn:¬(-1<=x.Frame/\x.Frame<=19):=λc=>hin (M.inR_iff.2 c);have hx:M.slotOk x=false:=(by(cases hh:M.slotOk x with|false=>rfl|true=>have:=jQ hh;omega));rw[Bool.eq_false_iff.2 hin,hx];rfl) (λs _=>by
  simp only[jF,iT,h3];rw[dF (by omega),cFq]) p ht
theorem bNp{h:DHost}(hs:SmallH h)(hl:h.Guests.length=3):
 iter (kL h) (List.replicate 20 0,List.replicate 20 false,0)=some (.ret (bif h.Guests.all M.guestOk then .go (((M.slots h.Guests).foldl M.bump2 (List.replicate 20 0,List.replicate 20 false)).1,((M.slots h.Guests).foldl M.bump2 (List.replicate 20 0,List.replicate 20 false)).2)else .out false)):=by
 have key:=(sK (xs:=h.Guests) (step:=kL h) (λ(s:List Int×List Bool) j=>(s.1,s.2,j)) M.guestOk (λs g=>g.Pages.foldl M.bump2 s) (λs=>JO.go (s.1,s.2)) (.out false) (λj s=>Tw (8*j) s) (λk g s a1 a2 a3 a4=>by
  have hg:=hs.all g a2;have:=hg.c.regs;have:=hg.pages;have:=hg.i;have:=hg.o;refine⟨?_,λhx=>?_⟩;{simp only[kL,iT,dT a1,cTq,a3];rw[aB ⟨by omega,a1⟩];(cases hlv:g.Live with|false=>have e:oD (DGuest.mk false (DCore.mk g.C.Regs g.C.Pc g.C.Root g.C.Vector g.C.Saved g.C.SavedUser g.C.Cause g.C.Bad g.C.Timer g.C.Waits g.C.User g.C.On g.C.Stopped) g.Pages g.In g.Out)=some (decide (g=M.noGuest)):=(by have:=bTx hlv;obtain⟨l,c,p,i,o⟩:=g;simp only at hlv;subst hlv;exact this);rw[bF,cTq,e,oB];have e2:M.guestOk g=decide (g=M.noGuest):=(by unfold M.guestOk;rw[hlv];rfl);rw[e2];by_cases hz:g=M.noGuest;{rw[dT hz,hz];simp only[bT,cFq,oB,JO.run,sV,cTq,M.noGuest,List.foldl_nil];rw[aF (by omega) (by omega)]};{rw[dF hz];rfl}|true=>rw[bT,cFq];have e2:M.guestOk g=(M.coreOk g.C&&(decide (g.Pages.length=8)&&g.Pages.all M.slotOk)&&M.rowOk g.In&&M.rowOk g.Out):=(by unfold M.guestOk;rw[hlv];rfl);show Option.bind (Option.bind (kW g.C) _) _=_;rw[aYm (by omega),oB,e2];(cases hc:M.coreOk g.C with|false=>rfl|true=>rw[bT,cFq,Bool.true_and];by_cases hp:g.Pages.length=8;{rw[dT hp,show decide (((g.Pages.length:Nat):Int)=8)=true by simp;omega,bT,cFq,aJx (by omega),oB,aJx (by omega)];(cases hri:M.rowOk g.In with|false=>simp[JO.run]|true=>rw[bT,cFq,oB];(cases hro:M.rowOk g.Out with|false=>simp[JO.run]|true=>rw[bT,cFq,(bAu (by omega) a3 a4 (by omega)).1];(cases hpp:g.Pages.all M.slotOk with|false=>rfl|true=>simp only[cTq,oB,LO.val,JO.run,sV,Bool.and_self];rw[aF (by omega) (by omega)])))};{rw[dF hp,show decide (((g.Pages.length:Nat):Int)=8)=false by simp;omega];rfl}))}
  · obtain⟨q1,q2⟩:=lY hx;have:=(bAu q2 a3 a4 (by omega)).2 q1;exact⟨this.tl.mono (by omega),this.len⟩) (λs _=>by
  simp only[kL];rw[dF (by omega),cFq]) (List.replicate 20 0,List.replicate 20 false) ⟨Tl.zero.mono (by omega),by simp⟩).1
 rw[qR]at key;exact key
theorem bPd{ss:List DSlot}(h:ss.all M.slotOk=true):((List.range 20).all λf=>!(decide (1<M.many ss (f:Int))&&ss.any λs=>decide (s.Frame=(f:Int))&&s.Write))=M.alone ss:=by
 apply dbe;simp only[M.alone,List.all_eq_true,List.mem_range,Bool.not_eq_true',Bool.and_eq_false_iff,decide_eq_false_iff_not,List.any_eq_false,bA,decide_eq_true_eq,Bool.or_eq_true,not_and];constructor
 · intro q s hs
   cases hw:s.Write with
   |false=>exact .inl rfl
   |true=>
    have hx:=List.all_eq_true.1 h s hs;have hr:=jQ hx;have hf:s.Frame≠-1:=λe=>by unfold M.slotOk at hx;rw[dT e,hw]at hx;simp at hx
    rcases q s.Frame.toNat (by omega)with q|q;{rw[show((s.Frame.toNat:Nat):Int)=s.Frame by omega]at q;exact .inr (by omega)};{exact absurd hw (by simpa using q s hs (by omega))}
 {intro q f hf;by_cases hm:1<M.many ss (f:Int);{refine .inr λs hs e=>?_;rcases q s hs with q|q;{simp[q]};{rw[e]at q;omega}};{exact .inl hm}}
theorem aEt{h:DHost}(hs:SmallH h):jD h=some (M.hostOk h):=by
 have:=hs.words;unfold jD M.hostOk;rw[bNi (by omega),oB];by_cases hl:h.Words.length=160
 · rw[dT (p:=(h.Words.length:Int)<=160) (by omega),dT hl]
   cases M.wordsOk h.Words with
   |false=>rfl
   |true=>
    rw[Bool.true_and,bT,cFq,dT (p:=((h.Words.length:Nat):Int)=160) (by omega),bT,cFq];by_cases hg:h.Guests.length=3
    · rw[dT hg,dT (p:=((h.Guests.length:Nat):Int)=3) (by omega),bT,cFq]
      rw[show Int.toNat (20:Int)=20 from rfl,bNp hs hg];cases ha:h.Guests.all M.guestOk with
      |false=>rfl
      |true=>
       have hsl:=tH ha;simp only[cTq,oB,LO.val,JO.run,aAq,Bool.true_and];rw[aTu]
       have key:=bIr (n:=20) (step:=nI ((M.slots h.Guests).foldl M.bump (List.replicate 20 0),((M.slots h.Guests).foldl M.bump2 (List.replicate 20 0,List.replicate 20 false)).2)) (λk=>k) (λf=>!(decide (1<M.many (M.slots h.Guests) (f:Int))&&(M.slots h.Guests).any λs=>decide (s.Frame=(f:Int))&&s.Write)) (JO.go ()) (.out false) (λi hi=>by
        have q1:=uN hsl hi;have q2:=qM hsl;obtain⟨q3,q4⟩:=aTh hi (p:=(List.replicate 20 0,List.replicate 20 false)) (by simp) hsl;unfold M.takers at q1 q2;simp only[nI,iT];have e0:decide ((1:Int)<(List.foldl M.bump (List.replicate 20 0) (M.slots h.Guests)).getD i default)=decide (1<M.many (M.slots h.Guests) (i:Int)):=(by rw[decide_eq_decide,q1];omega);rw[dT (p:=(i:Int)<20) (by omega),cTq,aB ⟨by omega,by omega⟩,e0,q4];rw[show(List.replicate 20 false).getD i default=false by rw[bL (by rw[List.length_replicate];omega),List.getElem_replicate],Bool.false_or];by_cases e:1<M.many (M.slots h.Guests) (i:Int)
        · rw[dT e,cTq,aB ⟨by omega,by omega⟩]
          cases(M.slots h.Guests).any λs=>decide (s.Frame=(i:Int))&&s.Write with
          |true=>rfl
          |false=>simp only[cFq,oB,JO.run,sN,Bool.and_false,bF,cTq];rw[aF (by omega) (by omega)]
        · rw[dF e];simp only[cFq,oB,JO.run,sN,Bool.false_and,bF,cTq];rw[aF (by omega) (by omega)]) (by
        simp only[nI];rfl)
       rw[key,bPd hsl];cases M.alone (M.slots h.Guests)<;>rfl
    {rw[dF hg,dF (p:=((h.Guests.length:Nat):Int)=3) (by omega)];rfl}
 {rw[dF hl,dF (p:=((h.Words.length:Nat):Int)=160) (by omega)];cases(decide ((h.Words.length:Int)<=160)&&M.wordsOk h.Words)<;>rfl}
structure HOk (h : DHost) : Prop where
 len:h.Words.length=160
 words:M.wordsOk h.Words=true
 three:h.Guests.length=3
 all:h.Guests.all M.guestOk=true
 alone:M.alone (M.slots h.Guests)=true
theorem eY{h:DHost}:M.hostOk h=true↔HOk h:=by unfold M.hostOk;simp only[bA,decide_eq_true_eq];exact⟨λ⟨⟨⟨a,b⟩,c,d⟩,e⟩=>⟨a,b,c,d,e⟩,λh=>⟨⟨⟨h.len,h.words⟩,h.three,h.all⟩,h.alone⟩⟩
namespace M
noncomputable def there (h:DHost)(g:Int):Bool:=hostOk h&&(inR 0 2 g&&(h.Guests.getD g.toNat default).Live)
end M
theorem lU{h:DHost}{g:Int}:M.there h g=true↔HOk h/\0<=g/\g<=2/\(h.Guests.getD g.toNat default).Live=true:=by unfold M.there;rw[bA,bA,eY,M.inR_iff];exact⟨λ⟨a,⟨b,c⟩,d⟩=>⟨a,b,c,d⟩,λ⟨a,b,c,d⟩=>⟨a,⟨b,c⟩,d⟩⟩
theorem aSp{gs:List DGuest}{g:Int}(h3:gs.length=3):mU gs g=some (M.inR 0 2 g&&(gs.getD g.toNat default).Live):=by unfold mU M.inR;by_cases h0:0<=g;{by_cases h1:g<3;{rw[dT h0,dT h1,dT (p:=g<=2) (by omega),cTq,cTq,aB ⟨h0,by omega⟩];rfl};{rw[dT h0,dF h1,dF (p:=g<=2) (by omega)];rfl}};{rw[dF h0];rfl}
theorem aFo{h:DHost}{g:Int}(hs:SmallH h):iZ h g=some (M.there h g):=by unfold iZ M.there;rw[aVy hs,oB];(cases hh:M.hostOk h with|false=>rfl|true=>have hk:=eY.1 hh;rw[cTq,aSp hk.three];rfl)
theorem wK{h:DHost}{g:Int}(hs:SmallH h):dI h g=some (M.there h g):=by unfold dI M.there;rw[aEt hs,oB];(cases hh:M.hostOk h with|false=>rfl|true=>have hk:=eY.1 hh;have:=hk.three;rw[cTq,Bool.true_and,nR,oB];(cases hi:M.inR 0 2 g with|false=>rfl|true=>have:=M.inR_iff.1 hi;rw[cTq,Bool.true_and,aB ⟨by omega,by omega⟩]))
theorem aUz{T:Type}{xs ys:List T}(h:xs.length=ys.length):over xs 0 xs.length ys=ys:=by simp only[over,h,Nat.min_self,List.take_length,Nat.zero_add,List.take_zero,List.nil_append];rw[List.drop_eq_nil_of_le (by omega),List.append_nil]
theorem jV{xs:List Int}(h:xs.length<=1048576):dC xs=some xs:=by unfold dC;rw[aB ⟨by omega,by omega,by omega⟩,aUz (by simp)]
theorem aVh{c:DCore}(h:SmallC c):jC c=some c:=by have:=h.regs;unfold jC;rw[aB ⟨by simp;omega,by simp;omega⟩];rfl
theorem vH{xs ys:List Int}{o k a:Nat}(hk:ys.length=k)(ho:o+k<=xs.length):(over xs o k ys).getD a default=if a<o then xs.getD a default else if a<o+k then ys.getD (a-o) default else xs.getD a default:=by simp only[over,hk,Nat.min_self,List.getD_eq_getElem?_getD];rw[List.take_of_length_le (l:=ys) (i:=k) (by omega)];by_cases h1:a<o;{rw[if_pos h1,List.getElem?_append_left (by simp;omega),List.getElem?_take_of_lt h1]};{rw[if_neg h1,List.getElem?_append_right (by simp;omega)];have e:(xs.take o).length=o:=(by simp;omega);rw[e];by_cases h2:a<o+k;{rw[if_pos h2,List.getElem?_append_left (by omega)]};{rw[if_neg h2,List.getElem?_append_right (by omega),List.getElem?_drop];congr 2;omega}}
theorem lP{xs ys:List Int}{o k:Nat}(ho:o+k<=xs.length):(over xs o k ys).length=xs.length:=aHv ho
theorem uX{xs ys:List Int}{n:Nat}(h1:xs.length=n)(h2:ys.length=n)(h:∀a,a<n->xs.getD a default=ys.getD a default):xs=ys:=by apply List.ext_getElem (by omega);intro i q1 q2;have:=h i (by omega);rwa[bL q1,bL q2]at this
theorem aWz{xs:List Int}{o a:Nat}(ha:a<8):((xs.drop o).take 8).getD a default=xs.getD (o+a) default:=by simp only[List.getD_eq_getElem?_getD];rw[List.getElem?_take_of_lt ha,List.getElem?_drop]
theorem aFk{xs:List Int}{o:Nat}(h:o+8<=xs.length):((xs.drop o).take 8).length=8:=by simp;omega
namespace M
def word(ws:List Int)(ps:List DSlot)(a:Nat):Int:=if(ps.getD (a/8) default).Frame<0 then 0 else ws.getD ((ps.getD (a/8) default).Frame.toNat*8+a%8) default
def mem(ws:List Int)(ps:List DSlot):List Int:=(List.range 64).map (word ws ps)
def page(ws:List Int)(f:Nat):List Int:=(ws.drop (f*8)).take 8
noncomputable def hostView (h:DHost)(g:Int):DBare×Bool:=bif there h g then(⟨(h.Guests.getD g.toNat default).C,mem h.Words (h.Guests.getD g.toNat default).Pages,(h.Guests.getD g.toNat default).In,(h.Guests.getD g.toNat default).Out⟩,true)else(⟨noCore,[],[],[]⟩,false)
end M
theorem kY{ws:List Int}{ps:List DSlot}:(M.mem ws ps).length=64:=by simp[M.mem]
theorem kX{ws:List Int}{ps:List DSlot}{a:Nat}(ha:a<64):(M.mem ws ps).getD a default=M.word ws ps a:=by rw[bL (by rw[kY];exact ha)];simp[M.mem]
theorem bKv{xs:List Int}{f:Int}(h0:0<=f)(h1:f*8+8<=xs.length)(h2:f<=1000000):sD xs f=some (M.page xs f.toNat):=by unfold sD M.page;rw[aF (z:=f*8) (by omega) (by omega),aF (z:=f+1) (by omega) (by omega),aF (z:=(f+1)*8) (by omega) (by omega),aB ⟨by omega,by omega,by omega⟩];rw[show Int.toNat ((f+1)*8)-Int.toNat (f*8)=8 by omega,show Int.toNat (f*8)=f.toNat*8 by omega]
theorem bKp{xs:List Int}{f:Int}(h0:0<=f)(h1:f*8+8<=xs.length)(h2:f<=1000000):lQ xs f=some (xs,(f.toNat*8,8)):=by unfold lQ;rw[aF (z:=f*8) (by omega) (by omega),aF (z:=f+1) (by omega) (by omega),aF (z:=(f+1)*8) (by omega) (by omega),aB ⟨by omega,by omega,by omega⟩];rw[show Int.toNat ((f+1)*8)-Int.toNat (f*8)=8 by omega,show Int.toNat (f*8)=f.toNat*8 by omega]
theorem aTo{ps:List DSlot}(hp:ps.all M.slotOk=true){i:Nat}(hi:i<ps.length):-1<=(ps.getD i default).Frame/\(ps.getD i default).Frame<20:=jQ (List.all_eq_true.1 hp _ (cX hi))
theorem aUc{b:DBare}(hs:SmallB b):jH b=some b:=by unfold jH;rw[jV hs.c.regs,jV hs.mem,jV hs.i,jV hs.o];rfl
structure Live (h : DHost) (g : Int) (x : DGuest) : Prop where
 small:SmallG x
 ok:HOk h
 lo:0<=g
 hi:g<=2
 at_:h.Guests.getD g.toNat default=x
 live:x.Live=true
 core:M.coreOk x.C=true
 pages:x.Pages.length=8
 slots:x.Pages.all M.slotOk=true
 inn:M.rowOk x.In=true
 out:M.rowOk x.Out=true
theorem cV{h:DHost}{g:Int}(hs:SmallH h)(ht:M.there h g=true):Live h g (h.Guests.getD g.toNat default):=by obtain⟨hk,h0,h1,h2⟩:=lU.1 ht;have:=hk.three;have hm:=cX (xs:=h.Guests) (k:=g.toNat) (by omega);have ho:=List.all_eq_true.1 hk.all _ hm;unfold M.guestOk at ho;rw[h2,cTq]at ho;simp only[bA,decide_eq_true_eq]at ho;exact⟨hs.all _ hm,hk,h0,h1,rfl,h2,ho.1.1.1,ho.1.1.2.1,ho.1.1.2.2,ho.1.2,ho.2⟩
theorem td8(i:Nat):Int.tdiv (i:Int) 8=((i/8:Nat):Int):=rfl
theorem tm8(i:Nat):Int.tmod (i:Int) 8=((i%8:Nat):Int):=rfl
theorem aWq{α:Type}{f:Nat->α}:∀(xs:List Nat) (s:List α),xs.foldl (λs i=>s++[f i]) s=s++xs.map f
 |[],s=>by simp
 |x::xs,s=>by rw[List.foldl_cons,aWq xs];simp
theorem bIl {T:Type} [Inhabited T] {xs ys:List T} {step:List T×Int->Option (LO (List T×Int) (JO (List T) (List T)))} (hl:ys.length=xs.length)
 (hs:∀(k:Nat) (zs:List T),k<xs.length->zs.length=xs.length->step (zs,(k:Int))=some (.next (zs.set k (xs.getD k default),(k:Int)+1)))
 (he:∀zs:List T,zs.length=xs.length->step (zs,(xs.length:Int))=some (.ret (.go zs))):iter step (ys,0)=some (.ret (.go xs)):=by
 have key:∀(n k:Nat) (zs:List T),k+n=xs.length->zs.length=xs.length->(∀i,i<k->zs[i]? =xs[i]?)->iter step (zs,(k:Int))=some (.ret (.go xs)):=by
  intro n;induction n with
  |zero=>intro k zs hk hz h;have e:zs=xs:=(by apply List.ext_getElem?;intro i;by_cases hi:i<k;{exact h i hi};{rw[List.getElem?_eq_none (by omega),List.getElem?_eq_none (by omega)]});have hk:k=xs.length:=(by omega);rw[eN,hk,he zs hz,e]
  |succ n ih=>
   intro k zs hk hz h;rw[eN,hs k zs (by omega) hz]
   have:=ih (k+1) (zs.set k (xs.getD k default)) (by omega) (by simpa using hz) (λi hi=>by
    rw[List.getElem?_set];by_cases e:k=i;{subst e;rw[if_pos rfl,if_pos (by omega),bL (by omega),List.getElem?_eq_getElem (by omega)]}
    · rw[if_neg e];exact h i (by omega))
   simpa using this
 simpa using key xs.length 0 ys (by omega) hl (by simp)
def bOw{T:Type}(m:T->Int->T×Int):List T->Int->List T×Int
 |[],k=>([],k)
 |x::xs,k=>((m x k).1::(bOw m xs (m x k).2).1,(bOw m xs (m x k).2).2)
theorem aQs{xs:List DSlot}(h:xs.length<=1048576):lH xs=some xs:=by unfold lH;rw[aB ⟨by omega,by omega,by omega⟩,aUz (by simp)]
theorem bAx{g:DGuest}(h:M.guestOk g=true)(hl:g.Live=false):g=M.noGuest:=by unfold M.guestOk at h;rw[hl,cFq,decide_eq_true_eq]at h;exact h
theorem aRf{g:DGuest}(hs:SmallG g)(h:M.guestOk g=true):iL g=some g:=by unfold iL;(cases hl:g.Live with|false=>have:=bAx h hl;subst this;rfl|true=>rw[bT,cFq,jV hs.c.regs,aQs hs.pages,jV hs.i,jV hs.o];simp only[oB];rw[<-hl])
theorem bPx{g:DGuest}(hs:SmallG g)(h:M.guestOk g=true):mW g=some g:=by have:=hs.pages;have:=hs.i;have:=hs.o;unfold mW;(cases hl:g.Live with|false=>have:=bAx h hl;subst this;rfl|true=>rw[bT,cFq,aVh hs.c,oB,aB ⟨by omega,by omega⟩,aB ⟨by omega,by omega⟩,aB ⟨by omega,by omega⟩,<-hl])
theorem aPg{gs:List DGuest}(hl:gs.length<=1048576)(hs:∀g∈gs,SmallG g)(h:gs.all M.guestOk=true):kP gs=some gs:=by
 unfold kP;rw[aB ⟨by omega,by omega,by omega⟩]
 have key:=bIl (xs:=gs) (ys:=List.replicate (Int.toNat (gs.length:Int)) M.noGuest) (step:=fG gs) (by simp) (λk zs hk hz=>by
  have h1:(k:Int)<(gs.length:Int):=(by omega);simp only[fG,dT h1,cTq];rw[aB ⟨by omega,h1⟩,iT];show Option.bind (iL (gs.getD k default)) _=_;rw[aRf (hs _ (cX hk)) (List.all_eq_true.1 h _ (cX hk)),oB,aB ⟨by omega,by omega⟩,aF (by omega) (by omega)]) (λzs hz=>by
  simp only[fG];rw[dF (by omega),cFq])
 show Option.bind (Option.bind (iter (fG gs) (List.replicate (Int.toNat (gs.length:Int)) M.noGuest,0)) LO.val) _=_;rw[key];rfl
theorem aIi{h:DHost}(hs:SmallH h)(hg:h.Guests.all M.guestOk=true):eR h=some h:=by
 have:=hs.words;have:=hs.guests;unfold eR;rw[aB ⟨by simp;omega,by simp;omega⟩]
 have key:=(tA (xs:=h.Guests) (step:=nM h) (λs j=>(s,j)) (λs g=>s++[g]) (λs=>JO.go s) (λj s=>s.length=j) (λk g s a1 a2 a3 a4=>by
  refine⟨?_,by simp;omega⟩;simp only[nM,dT a1,cTq,iT,a3];rw[aB ⟨by omega,a1⟩];show Option.bind (mW g) _=_;rw[bPx (hs.all g a2) (List.all_eq_true.1 hg g a2),oB,aB ⟨by omega,by omega⟩,aF (by omega) (by omega)]) (λs _=>by
  simp only[nM];rw[dF (by omega),cFq]) [] rfl).1
 rw[key]
 have e:∀(xs ys:List DGuest),xs.foldl (λs g=>s++[g]) ys=ys++xs:=by
  intro xs;induction xs with
  |nil=>intro ys;simp
  |cons x xs ih=>intro ys;rw[List.foldl_cons,ih];simp
 rw[e];rfl
namespace M
end M
def dec(w:Int):DEntry:=⟨decide (w%2=1),decide (w/2%2=1),decide (w/4%2=1),w/8%8⟩
theorem aYt(w:Int):0<=(dec w).Page/\(dec w).Page<=7:=by simp only[dec];omega
theorem fR{w k:Int}(h0:0<=w)(h1:w<=4095)(hk:1<=k):w64 (Int.tdiv w k)=w/k/\0<=w/k:=by have e:Int.tdiv w k=w/k:=Int.tdiv_eq_ediv_of_nonneg h0;have g0:0<=w/k:=Int.ediv_nonneg h0 (by omega);have g1:w/k<=w:=Int.ediv_le_self k h0;rw[e,aF (by omega) (by omega)];exact⟨rfl,g0⟩
theorem aZs{w:Int}(h0:0<=w)(h1:w<=4095):kO w=some (dec w):=by unfold kO;rw[aEo,show M.wordOk w=true from M.inR_iff.2 ⟨h0,h1⟩];simp only[oB,bT,cFq];rw[(fR h0 h1 (k:=1) (by omega)).1,(fR h0 h1 (k:=2) (by omega)).1,(fR h0 h1 (k:=4) (by omega)).1,(fR h0 h1 (k:=8) (by omega)).1,iM (fR h0 h1 (k:=1) (by omega)).2,iM (fR h0 h1 (k:=2) (by omega)).2,iM (fR h0 h1 (k:=4) (by omega)).2,iM (fR h0 h1 (k:=8) (by omega)).2,Int.ediv_one];rfl
theorem aZx{w:Int}(h0:0<=w)(h1:w<=4095):nH w=some (dec w):=by unfold nH;rw[sU,show M.wordOk w=true from M.inR_iff.2 ⟨h0,h1⟩];simp only[oB,bT,cFq];rw[(fR h0 h1 (k:=2) (by omega)).1,(fR h0 h1 (k:=4) (by omega)).1,(fR h0 h1 (k:=8) (by omega)).1,iM h0,iM (fR h0 h1 (k:=2) (by omega)).2,iM (fR h0 h1 (k:=4) (by omega)).2,iM (fR h0 h1 (k:=8) (by omega)).2];rfl
namespace M
def entry(ws:List Int)(x:DGuest)(p:Nat):DEntry:=if x.C.Root=-1 then⟨true,true,true,(p:Int)⟩else dec (word ws x.Pages (x.C.Root.toNat*8+p))
def shadeFor(x:DGuest)(e:DEntry):DShade:=⟨e.There,e.Write,e.User,e.Page,(x.Pages.getD e.Page.toNat default).Frame,(x.Pages.getD e.Page.toNat default).Write⟩
def shade(ws:List Int)(x:DGuest)(p:Nat):DShade:=shadeFor x (entry ws x p)
def shadow(ws:List Int)(x:DGuest):List DShade:=(List.range 8).map (shade ws x)
noncomputable def shadowOf (h:DHost)(g:Int):List DShade:=bif there h g then shadow h.Words (h.Guests.getD g.toNat default)else[]
def pageWords(ws:List Int)(s:DSlot):List Int:=bif decide (s.Frame=-1)then List.replicate 8 0 else page ws s.Frame.toNat
end M
theorem jN{ws:List Int}{x:DGuest}:(M.shadow ws x).length=8:=by simp[M.shadow]
theorem lG{ws:List Int}{x:DGuest}{p:Nat}(hp:p<8):(M.shadow ws x).getD p default=M.shade ws x p:=by rw[bL (by rw[jN];exact hp)];simp[M.shadow]
theorem aBq{c:DCore}(h:M.coreOk c=true):-1<=c.Root/\c.Root<=7:=by unfold M.coreOk at h;simp only[bA]at h;exact M.inR_iff.1 h.1.1.2
section
variable {h : DHost} {g : Int} {x : DGuest}
theorem cD(l:Live h g x){p:Nat}(hp:p<8):-1<=(x.Pages.getD p default).Frame/\(x.Pages.getD p default).Frame<20:=aTo l.slots (by rw[l.pages];exact hp)
theorem bAr(l:Live h g x){a:Nat}(ha:a<64):0<=M.word h.Words x.Pages a/\M.word h.Words x.Pages a<=4095:=by have:=cD l (p:=a/8) (by omega);have:=l.ok.len;unfold M.word;split;{omega};{exact iD l.ok.words (by omega)}
theorem aLh{ws:List Int}{s:DSlot}(hw:ws.length=160)(hs:-1<=s.Frame/\s.Frame<20):eQ ws s=some (M.pageWords ws s):=by unfold eQ M.pageWords;by_cases e:s.Frame=-1;{rw[dT e];rfl};{rw[dF e,cFq,cFq,bKv (by omega) (by omega) (by omega)];rfl}
theorem rZ{ws:List Int}{s:DSlot}(hw:ws.length=160)(hs:-1<=s.Frame/\s.Frame<20):(M.pageWords ws s).length=8:=by unfold M.pageWords;by_cases e:s.Frame=-1;{rw[dT e,cTq,List.length_replicate]};{rw[dF e,cFq];exact aFk (by omega)}
theorem rW{ws:List Int}{s:DSlot}(hs:-1<=s.Frame/\s.Frame<20){a:Nat}(ha:a<8):(M.pageWords ws s).getD a default=if s.Frame<0 then 0 else ws.getD (s.Frame.toNat*8+a) default:=by unfold M.pageWords;by_cases e:s.Frame=-1;{rw[dT e,cTq,if_pos (by omega),bL (by rw[List.length_replicate];exact ha),List.getElem_replicate]};{rw[dF e,cFq,if_neg (by omega)];exact aWz ha}
theorem bQo{ws:List Int}{ps:List DSlot}{r p:Nat}(hp:p<8):M.word ws ps (r*8+p)=if(ps.getD r default).Frame<0 then 0 else ws.getD ((ps.getD r default).Frame.toNat*8+p) default:=by unfold M.word;rw[show(r*8+p)/8=r by omega,show(r*8+p)%8=p by omega]
theorem yN(l:Live h g x){p:Nat}(hp:p<8):0<=(M.entry h.Words x p).Page/\(M.entry h.Words x p).Page<=7:=by unfold M.entry;split;{simp only;omega};{exact aYt _}
theorem bIe(l:Live h g x){p:Nat}(hp:p<8):qT h g (p:Int)=some (M.entry h.Words x p):=by have:=l.ok.three;have:=l.lo;have:=l.hi;have hpl:=l.pages;have hr:=aBq l.core;unfold qT M.entry;rw[aB ⟨l.lo,by omega⟩,l.at_];by_cases e:x.C.Root=-1;{rw[dT e,if_pos e];rfl};{have hsl:=cD l (p:=x.C.Root.toNat) (by omega);rw[dF e,if_neg e,cFq,aB ⟨by omega,by omega⟩];show Option.bind (eQ h.Words (x.Pages.getD x.C.Root.toNat default)) _=_;rw[aLh l.ok.len hsl,oB,aB ⟨by omega,by rw[rZ l.ok.len hsl];omega⟩,iT,rW hsl hp];have hw:=bAr l (a:=x.C.Root.toNat*8+p) (by omega);rw[bQo hp]at hw ⊢;rw[aZs hw.1 hw.2];rfl}
theorem aSu(l:Live h g x){p:Nat}(hp:p<8):mO h g (p:Int)=some (M.shade h.Words x p):=by have:=l.ok.three;have:=l.lo;have:=l.hi;have hpl:=l.pages;have he:=yN l hp;unfold mO;rw[bIe l hp,oB,aB ⟨l.lo,by omega⟩,l.at_,aB ⟨by omega,by omega⟩];rfl
end
section
variable {h : DHost} {g : Int} {x : DGuest}
theorem bMo(l:Live h g x){a:Nat}(ha:a<64):rY h g (a:Int)=some (M.word h.Words x.Pages a):=by have:=l.ok.three;have:=l.lo;have:=l.hi;have hpl:=l.pages;have hlw:=l.ok.len;have hr:=cD l (p:=a/8) (by omega);unfold rY M.word;rw[aB ⟨l.lo,by omega⟩,l.at_,td8,tm8,aF (z:=((a/8:Nat):Int)) (by omega) (by omega),iT,aB ⟨by omega,by omega⟩];by_cases e:(x.Pages.getD (a/8) default).Frame<0;{rw[dT e,if_pos e];rfl};{rw[dF e,if_neg e,cFq,aF (z:=(x.Pages.getD (a/8) default).Frame*8) (by omega) (by omega),aF (z:=(x.Pages.getD (a/8) default).Frame*8+((a%8:Nat):Int)) (by omega) (by omega),aB ⟨by omega,by omega⟩];rw[show Int.toNat ((x.Pages.getD (a/8) default).Frame*8+((a%8:Nat):Int))=(x.Pages.getD (a/8) default).Frame.toNat*8+a%8 by omega]}
end
theorem yZ{h:DHost}{g:Int}(hs:SmallH h):eM h g=some (M.shadowOf h g):=by
 unfold eM M.shadowOf;rw[wK hs,oB];cases ht:M.there h g with
 |false=>rfl
 |true=>
  have l:=cV hs ht;generalize hx:h.Guests.getD g.toNat default=x at l;have:=l.ok.three;have:=l.lo;have:=l.hi;have hpl:=l.pages;have hr:=aBq l.core;rw[bT,cFq]
  have key:=(aFm (n:=8) (step:=lV h g) (λs j=>(s,j)) (λs i=>s++[M.shade h.Words x i]) (λs=>JO.go s) (λk s=>s.length=k) (λi s hi hs=>by
   refine⟨?_,by simp;omega⟩;have he:=yN l hi;have run:JO.run (.go ((M.entry h.Words x i).There,(M.entry h.Words x i).Write,(M.entry h.Words x i).User,(M.entry h.Words x i).Page)) (pE h g (s,(i:Int)))=some (LO.next (s++[M.shade h.Words x i],(i:Int)+1)):=(by simp only[JO.run,pE];rw[aB ⟨l.lo,by omega⟩,l.at_,aB ⟨by omega,by omega⟩,aB ⟨by simp;omega,by simp;omega⟩,aF (by omega) (by omega)];rfl);simp only[lV];rw[dT (p:=(i:Int)<8) (by omega),cTq,aB ⟨l.lo,by omega⟩,l.at_];by_cases e:x.C.Root=-1;{rw[dF (by omega),cFq,oB];have ee:M.entry h.Words x i=⟨true,true,true,(i:Int)⟩:=(by unfold M.entry;rw[if_pos e]);rw[ee]at run;exact run}
   · have ee:M.entry h.Words x i=dec (M.word h.Words x.Pages (x.C.Root.toNat*8+i)):=(by unfold M.entry;rw[if_neg e]);have hw:=bAr l (a:=x.C.Root.toNat*8+i) (by omega);rw[dT (by omega),cTq,aF (z:=x.C.Root*8) (by omega) (by omega),aF (z:=x.C.Root*8+(i:Int)) (by omega) (by omega),show x.C.Root*8+(i:Int)=((x.C.Root.toNat*8+i:Nat):Int) by omega,bMo l (by omega),oB,aZx hw.1 hw.2];rw[ee]at run;exact run) (λs _=>by
   simp only[lV];rfl) [] rfl).1
  rw[key,aWq];rfl
theorem bGw {S R:Type} {n:Nat} {step:S->Option (LO S R)} (st:Nat->S) (ok:Nat->Bool) (a:R) (r:Nat->R)
 (hs:∀i,i<n->step (st i)=some (bif ok i then .next (st (i+1))else .ret (r i))) (he:step (st n)=some (.ret a)):
 iter step (st 0)=some (.ret (match (List.range n).find? (λi=>!ok i)with|some i=>r i|none=>a)):=by
 have key:∀m i,i+m=n->iter step (st i)=some (.ret (match (List.range' i m).find? (λi=>!ok i)with|some i=>r i|none=>a)):=by
  intro m;induction m with
  |zero=>intro i hi;have:i=n:=(by omega);subst this;rw[eN,he];rfl
  |succ m ih=>intro i hi;rw[eN,hs i (by omega)];(cases e:ok i with|true=>rw[List.range'_succ,List.find?_cons];simp only[e,bT,cTq];exact ih (i+1) (by omega)|false=>rw[List.range'_succ,List.find?_cons];simp only[e,bF,cFq])
 have:=key n 0 (by omega);rwa[<-List.range_eq_range']at this
namespace M
def eqSh(a b:DShade):Bool:=(a.There==b.There)&&((a.Write==b.Write)&&((a.User==b.User)&&(decide (a.Page=b.Page)&&(decide (a.Frame=b.Frame)&&((a.Ready==b.Ready)&&true)))))
noncomputable def lineOk (h:DHost)(t:DLine):Bool:=there h t.Tag&&(inR 0 7 t.At&&eqSh t.What (shade h.Words (h.Guests.getD t.Tag.toNat default) t.At.toNat))
def hit(t:DLine)(g a:Int):Bool:=decide (t.Tag=g)&&decide (t.At=a)
def lineFor(xs:List DLine)(g a:Int):Int:=match (List.range xs.length).find? (λi=>!!hit (xs.getD i default) g a)with|some i=>(i:Int)|none=>-1
def firstL(xs:List DLine)(k:Nat):Bool:=(List.range k).all λj=>!hit (xs.getD j default) (xs.getD k default).Tag (xs.getD k default).At
noncomputable def tagsOk (h:DHost)(xs:List DLine):Bool:=hostOk h&&(decide (xs.length<=6)&&(List.range xs.length).all λk=>lineOk h (xs.getD k default)&&firstL xs k)
end M
theorem zX{a b:DShade}:M.eqSh a b=true↔a=b:=by obtain⟨t,w,u,p,f,r⟩:=a;obtain⟨t',w',u',p',f',r'⟩:=b;simp only[M.eqSh,DShade.mk.injEq,bA,beq_iff_eq,decide_eq_true_eq,and_true]
theorem bJi{a b:DShade}:M.eqSh a b=M.eqSh b a:=Bool.eq_iff_iff.2 (by rw[zX,zX];exact eq_comm)
theorem aCq{t:DLine}{g a:Int}:M.hit t g a=true↔t.Tag=g/\t.At=a:=by simp only[M.hit,bA,decide_eq_true_eq]
theorem uC{xs:List DLine}{g a:Int}:decide (M.lineFor xs g a=-1)=(List.range xs.length).all λi=>!M.hit (xs.getD i default) g a:=by unfold M.lineFor;rw[Bool.eq_iff_iff,decide_eq_true_eq,List.all_eq_true];split;{rename_i i hi;have h1:=List.find?_some hi;have h2:=List.mem_of_find?_eq_some hi;constructor;{intro h;omega};{intro h;have:=h i h2;simp only[Bool.not_not]at h1;rw[h1]at this;cases this}};{rename_i hi;rw[List.find?_eq_none]at hi;exact⟨λ_ i h=>by have:=hi i h;simpa using this,λ_=>rfl⟩}
theorem bGs{xs:List DLine}{g a:Int}(h:xs.length<=1048576):pW xs g a=some (M.lineFor xs g a):=by
 have key:=bGw (n:=xs.length) (step:=mH xs g a) (λi=>(i:Int)) (λi=>!M.hit (xs.getD i default) g a) (.go ()) (λi=> .out (i:Int)) (λi hi=>by
  have h1:(i:Int)<(xs.length:Int):=(by omega);simp only[mH,dT h1,cTq];rw[aB ⟨by omega,h1⟩,iT];unfold M.hit;cases decide ((xs.getD i default).Tag=g)<;>cases decide ((xs.getD i default).At=a)<;>simp only[cTq,cFq,oB,JO.run,xT,Bool.and_true,Bool.and_false,bT,bF]<;>first|rfl|(rw[aF (by omega) (by omega)];rfl)) (by
  simp only[mH];rw[dF (by omega),cFq])
 unfold pW M.lineFor;rw[show(0:Int)=((0:Nat):Int)from rfl,key];cases(List.range xs.length).find? (λi=>!!M.hit (xs.getD i default) g a)<;>rfl
theorem bNg{h:DHost}{t:DLine}(hs:SmallH h)(hk:HOk h):nS h t=some (M.lineOk h t):=by unfold nS M.lineOk;rw[aSp hk.three,oB];have e:M.there h t.Tag=(M.inR 0 2 t.Tag&&(h.Guests.getD t.Tag.toNat default).Live):=(by unfold M.there;rw[eY.2 hk];rfl);rw[<-e];(cases ht:M.there h t.Tag with|false=>rfl|true=>have l:=cV hs ht;rw[cTq,Bool.true_and,aBa,oB];(cases hp:M.inR 0 7 t.At with|false=>rfl|true=>obtain⟨p0,p1⟩:=M.inR_iff.1 hp;have:=aSu l (p:=t.At.toNat) (by omega);rw[show((t.At.toNat:Nat):Int)=t.At by omega]at this;rw[cTq,Bool.true_and,this];rfl))
theorem aZi{T:Type}[Inhabited T]{xs:List T}{i k:Nat}(h:i<k):(xs.take k).getD i default=xs.getD i default:=by simp only[List.getD_eq_getElem?_getD];rw[List.getElem?_take_of_lt h]
theorem bEk{xs:List DLine}{k:Nat}(hk:k<=xs.length):decide (M.lineFor (xs.take k) (xs.getD k default).Tag (xs.getD k default).At=-1)=M.firstL xs k:=by rw[uC,List.length_take,Nat.min_eq_left hk];unfold M.firstL;rw[Bool.eq_iff_iff,List.all_eq_true,List.all_eq_true];exact⟨λh i hi=>by have:=h i hi;rwa[aZi (List.mem_range.1 hi)]at this,λh i hi=>by rw[aZi (List.mem_range.1 hi)];exact h i hi⟩
theorem bKj{h:DHost}{xs:List DLine}(hs:SmallH h)(hl:xs.length<=1048576):rU h xs=some (M.tagsOk h xs):=by
 unfold rU M.tagsOk;rw[aVy hs,oB];cases hh:M.hostOk h with
 |false=>rfl
 |true=>
  have hk:=eY.1 hh;rw[bT,cFq,Bool.true_and];by_cases h6:xs.length<=6
  · rw[dF (by omega),cFq,dT h6,Bool.true_and]
    have key:=jT (n:=xs.length) (step:=nP h xs) (λi=>(i:Int)) (λk=>M.lineOk h (xs.getD k default)&&M.firstL xs k) (.go ()) (.out false) (λi hi _=>by
     have h1:(i:Int)<(xs.length:Int):=(by omega);simp only[nP,dT h1,cTq];rw[aB ⟨by omega,h1⟩,iT];show Option.bind (nS h (xs.getD i default)) _=_;rw[bNg hs hk,oB];cases M.lineOk h (xs.getD i default)with
     |false=>rfl
     |true=>rw[bT,cFq,aB ⟨by omega,by omega,by omega⟩];simp only[Int.toNat_zero,Nat.sub_zero,List.drop_zero];rw[bGs (by rw[List.length_take];omega),oB,bEk (by omega),Bool.true_and,aF (by omega) (by omega)];cases M.firstL xs i<;>rfl) (λ_=>by
     simp only[nP];rw[dF (by omega),cFq])
    rw[show(0:Int)=((0:Nat):Int)from rfl,key];cases(List.range xs.length).all λk=>M.lineOk h (xs.getD k default)&&M.firstL xs k<;>rfl
  {rw[dT (by omega),dF h6];rfl}
theorem bKu{h:DHost}{xs:List DLine}(hs:SmallH h)(hl:xs.length<=1048576):sG h xs=some (M.tagsOk h xs):=by
 unfold sG M.tagsOk;rw[aEt hs,oB];cases hh:M.hostOk h with
 |false=>rfl
 |true=>
  have hk:=eY.1 hh;rw[bT,cFq,Bool.true_and];by_cases h6:xs.length<=6
  · rw[dF (by omega),cFq,dT h6,Bool.true_and]
    have key:=jT (n:=xs.length) (step:=nG h xs) (λi=>(i:Int)) (λk=>M.lineOk h (xs.getD k default)&&M.firstL xs k) (.go ()) (.out false) (λi hi _=>by
     have h1:(i:Int)<(xs.length:Int):=by omega
     have inner:=jT (n:=i) (step:=nO xs (i:Int)) (λj=>(j:Int)) (λj=>!M.hit (xs.getD j default) (xs.getD i default).Tag (xs.getD i default).At) (.go ()) (.out (.ret (.out false))) (λj hj _=>by
      have h2:(j:Int)<(i:Int):=(by omega);simp only[nO,dT h2,cTq,iT];rw[aB ⟨by omega,by omega⟩];unfold M.hit;cases decide ((xs.getD j default).Tag=(xs.getD i default).Tag)with
      |false=>simp only[cFq,oB,JO.run,sR,Bool.false_and,bF,cTq];rw[aF (by omega) (by omega)];rfl
      |true=>
       rw[cTq,aB ⟨by omega,by omega⟩];cases decide ((xs.getD j default).At=(xs.getD i default).At)with
       |false=>simp only[cFq,oB,JO.run,sR,Bool.and_false,bF,cTq];rw[aF (by omega) (by omega)];rfl
       |true=>rfl) (λ_=>by
      simp only[nO];rw[dF (by omega),cFq])
     simp only[nG,dT h1,cTq];rw[aB ⟨by omega,h1⟩,iT,wK hs,oB];unfold M.lineOk;cases ht:M.there h (xs.getD i default).Tag with
     |false=>rfl
     |true=>
      have hso:=yZ (g:=(xs.getD i default).Tag) hs;unfold M.shadowOf at hso;rw[ht,cTq]at hso;rw[bT,cFq,nR,oB];cases hp:M.inR 0 7 (xs.getD i default).At with
      |false=>rfl
      |true=>
       obtain⟨p0,p1⟩:=M.inR_iff.1 hp;rw[bT,cFq,hso,oB,aB ⟨p0,by rw[jN];omega⟩,lG (by omega)];show Option.bind (cond (!M.eqSh (M.shade h.Words (h.Guests.getD (xs.getD i default).Tag.toNat default) (xs.getD i default).At.toNat) (xs.getD i default).What) _ _) _=_;rw[bJi,show(0:Int)=((0:Nat):Int)from rfl,inner];cases M.eqSh (xs.getD i default).What (M.shade h.Words (h.Guests.getD (xs.getD i default).Tag.toNat default) (xs.getD i default).At.toNat)with
       |false=>rfl
       |true=>
        have:w64 ((i:Int)+1)=(i:Int)+1:=aF (by omega) (by omega);have e:M.firstL xs i=(List.range i).all λj=>!M.hit (xs.getD j default) (xs.getD i default).Tag (xs.getD i default).At:=rfl;rw[<-e];cases M.firstL xs i with
        |false=>rfl
        |true=>simp only[bT,cFq,cTq,oB,LO.val,JO.run,zY,Bool.true_and];rw[this];rfl) (λ_=>by
     simp only[nG];rw[dF (by omega),cFq])
    rw[show(0:Int)=((0:Nat):Int)from rfl,key];cases(List.range xs.length).all λk=>M.lineOk h (xs.getD k default)&&M.firstL xs k<;>rfl
  {rw[dT (by omega),dF h6];rfl}
namespace M
def sLets(s:DShade)(user write:Bool):Bool:=s.There&&(s.Write||!write)&&(s.User||!user)
def place(s:DShade)(addr:Int)(user write:Bool):Int×Int:=bif !sLets s user write then(-1,1)else bif decide (s.Frame=-1)then(-1,2)else bif write&&!s.Ready then(-1,3)else(s.Frame*8+addr%8,0)
end M
theorem at8{a f:Int}(h0:0<=a)(h1:a<=63)(f0:0<=f)(f1:f<20):w64 (w64 (f*8)+Int.tmod a 8)=f*8+a%8:=by rw[iM h0,aF (z:=f*8) (by omega) (by omega),aF (by omega) (by omega)]
theorem aWd{s:DShade}{a:Int}{user write:Bool}(h0:0<=a)(h1:a<=63)(f0:-1<=s.Frame)(f1:s.Frame<20):mI s a user write=some (M.place s a user write):=by obtain⟨t,w,u,p,f,r⟩:=s;simp only at f0 f1;unfold mI nF M.place M.sLets;by_cases e:f=-1;{simp only[dT e];cases t<;>cases w<;>cases u<;>cases user<;>cases write<;>rfl};{simp only[dF e,nE,at8 h0 h1 (by omega) f1];cases t<;>cases w<;>cases u<;>cases user<;>cases write<;>cases r<;>simp only[bT,bF,cTq,cFq,oB,JO.run,Bool.and_true,Bool.and_false,Bool.true_and,Bool.false_and,Bool.or_true,Bool.or_false,nE,at8 h0 h1 (show 0<=f by omega) f1]}
theorem wO{xs:List DShade}{s:DShade}{a:Int}{user write:Bool}(h0:0<=a)(h1:a<=63)(hl:xs.length=8)(hg:xs.getD (a/8).toNat default=s)(f0:-1<=s.Frame)(f1:s.Frame<20):cM xs a user write=some (M.place s a user write):=by unfold cM M.place M.sLets;have e8:w64 (Int.tdiv a 8)=a/8:=(by rw[Int.tdiv_eq_ediv_of_nonneg h0,aF (by omega) (by omega)]);rw[e8,aB ⟨by omega,by omega⟩,hg];obtain⟨t,w,u,p,f,r⟩:=s;simp only at f0 f1;by_cases e:f=-1;{simp only[dT e,dT (p:=f<0) (by omega)];cases t<;>cases w<;>cases u<;>cases user<;>cases write<;>rfl};{simp only[dF e,dF (p:=f<0) (by omega)];cases t<;>cases w<;>cases u<;>cases user<;>cases write<;>cases r<;>simp only[bT,bF,cTq,cFq,oB,JO.run,Bool.and_true,Bool.and_false,Bool.true_and,Bool.false_and,Bool.or_true,Bool.or_false,yB,e8,hg,at8 h0 h1 (show 0<=f by omega) f1]}
theorem vR{h:DHost}{g:Int}{x:DGuest}(l:Live h g x){p:Nat}(hp:p<8):-1<=(M.shade h.Words x p).Frame/\(M.shade h.Words x p).Frame<20:=by have he:=yN l hp;exact cD l (p:=(M.entry h.Words x p).Page.toNat) (by omega)
namespace M
def withLine(xs:List DLine)(t:DLine):List DLine:=(bif decide (xs.length=6)then xs.drop 1 else xs)++[t]
noncomputable def shadeHG (h:DHost)(g a:Int):DShade:=shade h.Words (h.Guests.getD g.toNat default) (a/8).toNat
noncomputable def tagWalk (h:DHost)(xs:List DLine)(g a:Int)(user write:Bool):List DLine×Int×Int:=bif tagsOk h xs&&(there h g&&inR 0 63 a)then((bif decide (lineFor xs g (a/8)=-1)then withLine xs ⟨g,a/8,shadeHG h g a⟩else xs),place (shadeHG h g a) a user write)else([],-1,-1)
end M
theorem vX{h:DHost}{xs:List DLine}(ht:M.tagsOk h xs=true):HOk h/\xs.length<=6/\∀k,k<xs.length->M.lineOk h (xs.getD k default)=true/\M.firstL xs k=true:=by unfold M.tagsOk at ht;simp only[bA,decide_eq_true_eq,List.all_eq_true,List.mem_range]at ht;exact⟨eY.1 ht.1,ht.2.1,λk hk=>ht.2.2 k hk⟩
theorem aLk{h:DHost}{t:DLine}(ht:M.lineOk h t=true):M.there h t.Tag=true/\(0<=t.At/\t.At<=7)/\t.What=M.shade h.Words (h.Guests.getD t.Tag.toNat default) t.At.toNat:=by unfold M.lineOk at ht;simp only[bA]at ht;exact⟨ht.1,M.inR_iff.1 ht.2.1,zX.1 ht.2.2⟩
theorem bOc{h:DHost}{xs:List DLine}(ht:M.tagsOk h xs=true){k:Nat}(hk:k<xs.length){g a:Int}(hh:M.hit (xs.getD k default) g (a/8)=true):(xs.getD k default).What=M.shadeHG h g a:=by obtain⟨h1,h2⟩:=aCq.1 hh;have:=(aLk ((vX ht).2.2 k hk).1).2.2;rw[this,h1,h2];rfl
theorem bHv{h:DHost}{xs:List DLine}{g a:Int}{user write:Bool}(hs:SmallH h)(hl:xs.length<=1048576):qG h xs g a user write=some (M.tagWalk h xs g a user write):=by
 unfold qG M.tagWalk;rw[bKu hs hl,oB];cases ht:M.tagsOk h xs with
 |false=>rfl
 |true=>
  obtain⟨hk,h6,hall⟩:=vX ht;rw[bT,cFq,wK hs,oB,Bool.true_and];cases hg:M.there h g with
  |false=>rfl
  |true=>
   have l:=cV hs hg;have hso:=yZ (g:=g) hs;unfold M.shadowOf at hso;rw[hg,cTq]at hso;rw[bT,cFq,nR,oB,Bool.true_and];cases ha:M.inR 0 63 a with
   |false=>rfl
   |true=>
    obtain⟨a0,a1⟩:=M.inR_iff.1 ha;have hp:(a/8).toNat<8:=(by omega);have hf:=vR l hp;have e8:w64 (Int.tdiv a 8)=a/8:=(by rw[Int.tdiv_eq_ediv_of_nonneg a0,aF (by omega) (by omega)]);generalize hz:List.replicate (Int.toNat (8:Int)) (DShade.mk false false false (0:Int) (0:Int) false)=zs;have hzl:zs.length=8:=(by rw[<-hz];simp);generalize hss:M.shadeHG h g a=s
    have key:=jT (n:=xs.length) (step:=mK xs g a) (λi=>((bif (List.range i).all (λj=>!M.hit (xs.getD j default) g (a/8))then zs else zs.set (a/8).toNat s),!(List.range i).all (λj=>!M.hit (xs.getD j default) g (a/8)),(i:Int))) (λ_=>true) (.go ((bif (List.range xs.length).all (λj=>!M.hit (xs.getD j default) g (a/8))then zs else zs.set (a/8).toNat s),!(List.range xs.length).all (λj=>!M.hit (xs.getD j default) g (a/8)))) (.go (zs,false)) (λi hi _=>by
     have h1:(i:Int)<(xs.length:Int):=(by omega);simp only[mK,dT h1,cTq,e8];rw[aB ⟨by omega,h1⟩,iT,List.range_succ,List.all_append];simp only[List.all_cons,List.all_nil,Bool.and_true];generalize hA:(List.range i).all (λj=>!M.hit (xs.getD j default) g (a/8))=A;cases hh:M.hit (xs.getD i default) g (a/8)with
     |false=>have:(bif decide ((xs.getD i default).Tag=g)then decide ((xs.getD i default).At=a/8)else false)=false:=(by unfold M.hit at hh;cases e1:decide ((xs.getD i default).Tag=g)<;>simp_all);(cases e1:decide ((xs.getD i default).Tag=g)with|false=>simp only[cFq,oB,JO.run,mJ,bF,Bool.and_true];rw[aF (by omega) (by omega)];rfl|true=>rw[e1]at this;rw[cTq,aB ⟨by omega,h1⟩,show decide ((xs.getD i default).At=a/8)=false from this];simp only[cFq,oB,JO.run,mJ,bF,Bool.and_true];rw[aF (by omega) (by omega)];rfl)
     |true=>
      obtain⟨q1,q2⟩:=aCq.1 hh;have hw:=bOc ht hi hh;rw[hss]at hw;have hset:∀ys:List DShade,List.set ys (a/8).toNat (DShade.mk (xs.getD i default).What.There (xs.getD i default).What.Write (xs.getD i default).What.User (xs.getD i default).What.Page (xs.getD i default).What.Frame (xs.getD i default).What.Ready)=ys.set (a/8).toNat s:=λys=>by rw[<-hw]
      rw[dT q1,cTq,aB ⟨by omega,h1⟩,dT q2,cTq,aB ⟨by omega,h1⟩,hset];have hlen:(bif A then zs else zs.set (a/8).toNat s).length=8:=(by cases A<;>simp[hzl]);rw[aB ⟨by omega,by rw[hlen];omega⟩];simp only[oB,JO.run,mJ,bT,Bool.and_false,cFq,bF];rw[aF (by omega) (by omega)];cases A<;>simp) (λ_=>by
     simp only[mK];rw[dF (by omega),cFq])
    have e:(List.range xs.length).all (λ_=>true)=true:=(by simp);rw[e,cTq]at key;simp only[List.range_zero,List.all_nil,cTq,bT]at key;rw[bT,cFq,cTq,aB ⟨by simp only[List.length_nil];omega,by simp only[List.length_nil];omega⟩];rw[show(0:Int)=((0:Nat):Int)from rfl,key];simp only[oB,LO.val,JO.run,yH,List.nil_append,<-uC];by_cases hn:M.lineFor xs g (a/8)=-1;{have hss2:M.shade h.Words (h.Guests.getD g.toNat default) (a/8).toNat=s:=hss;rw[dT hn];simp only[bT,bF,cTq,e8];rw[hso,oB,aB ⟨by omega,by rw[jN];omega⟩,lG hp,hss2];have hll:(xs++[DLine.mk g (a/8) (DShade.mk s.There s.Write s.User s.Page s.Frame s.Ready)]).length=xs.length+1:=(by simp);rw[aB ⟨by simp only[List.length_cons,List.length_nil];omega,by simp only[List.length_cons,List.length_nil];omega⟩];unfold M.withLine;by_cases e6:xs.length=6;{have ed:List.drop 1 (xs++[DLine.mk g (a/8) (DShade.mk s.There s.Write s.User s.Page s.Frame s.Ready)])=xs.drop 1++[DLine.mk g (a/8) (DShade.mk s.There s.Write s.User s.Page s.Frame s.Ready)]:=List.drop_append_of_le_length (by omega);rw[hll,dT (by omega),cTq,aB ⟨by omega,by omega,by omega⟩,List.take_of_length_le (by rw[List.length_drop,hll];simp),ed];simp only[oB,JO.run,mB];rw[wO a0 a1 jN (lG hp) hf.1 hf.2,oB,hss2,dT e6];rfl};{rw[hll,dF (by omega),cFq];simp only[oB,JO.run,mB];rw[wO a0 a1 jN (lG hp) hf.1 hf.2,oB,hss2,dF e6];rfl}};{rw[dF hn];simp only[bT,bF,cFq,oB,JO.run,mB];have hss2:M.shade h.Words (h.Guests.getD g.toNat default) (a/8).toNat=s:=hss;rw[hss2]at hf;rw[wO a0 a1 (by rw[lS,hzl]) (by rw[aH (by omega)]) hf.1 hf.2,oB]}
namespace M
def freeStep(ss:List DSlot)(s:List Int)(i:Nat):List Int:=bif decide (many ss (i:Int)=0)then s++[(i:Int)]else s
def free(ss:List DSlot):List Int:=(List.range 20).foldl (freeStep ss) []
noncomputable def hostFree (h:DHost):List Int:=bif hostOk h then free (slots h.Guests)else[]
end M
theorem vB{ss:List DSlot}:M.free ss=((List.range 20).filter λ(i:Nat)=>decide (M.many ss (i:Int)=0)).map λ(i:Nat)=>(i:Int):=by
 have e:∀(xs:List Nat) (s:List Int),xs.foldl (M.freeStep ss) s=s++(xs.filter λ(i:Nat)=>decide (M.many ss (i:Int)=0)).map λ(i:Nat)=>(i:Int):=by
  intro xs;induction xs with
  |nil=>intro s;simp
  |cons x xs ih=>intro s;rw[List.foldl_cons,ih,List.filter_cons];unfold M.freeStep;cases decide (M.many ss (x:Int)=0)<;>simp
 unfold M.free;rw[e];simp
theorem aHd{ss:List DSlot}{s:List Int}{i n:Nat}(h:s.length<=n):(M.freeStep ss s i).length<=n+1:=by unfold M.freeStep;cases decide (M.many ss (i:Int)=0)<;>simp<;>omega
theorem bKy{ss:List DSlot}:(M.free ss).length<=20:=by rw[vB,List.length_map];have:=List.length_filter_le (λ(i:Nat)=>decide (M.many ss (i:Int)=0)) (List.range 20);simpa using this
theorem bQq{h:DHost}(h3:h.Guests.length=3)(hall:h.Guests.all M.guestOk=true):kV h=some (M.takers (M.slots h.Guests)):=by
 have hin:∀(k:Nat) (g:DGuest) (xs:List Int) (h1:(k:Int)<(h.Guests.length:Int)) (h2:g∈h.Guests) (h3:h.Guests.getD k default=g) (h4:Tl (8*k) xs),
  iter (kE h (xs,(k:Int))) (xs,0)=some (.ret (.go (g.Pages.foldl M.bump xs)))/\Tl (8*k+g.Pages.length) (g.Pages.foldl M.bump xs):=by
  intro k g xs h1 h2 h3 h4;obtain⟨g1,g2⟩:=lY (List.all_eq_true.1 hall g h2)
  exact tA (xs:=g.Pages) (step:=kE h (xs,(k:Int))) (λs j=>(s,j)) M.bump (λs=> .go s) (λj s=>Tl (8*k+j) s) (λj x s a1 a2 a3 a4=>by
   have hx:=List.all_eq_true.1 g1 x a2;have hr:=jQ hx;have hl:=a4.len;refine⟨?_,a4.bump hx⟩;simp only[kE,iT,h3,dT a1,cTq];rw[aB ⟨by omega,h1⟩,aB ⟨by omega,h1⟩,aB ⟨by omega,a1⟩,a3];unfold M.bump;by_cases e:x.Frame=-1;{rw[dF (p:=(0:Int)<=x.Frame) (by omega),dT e];simp only[cTq,cFq,oB,JO.run,sS];rw[aF (by omega) (by omega)]}
   · have q1:=a4.low x.Frame.toNat (by omega);have q2:=a4.top x.Frame.toNat (by omega);rw[dT (p:=(0:Int)<=x.Frame) (by omega),dF e,cTq,aB ⟨by omega,by omega⟩,aB ⟨by omega,by omega⟩,aF (by omega) (by omega)];simp only[cTq,cFq,oB,JO.run,sS];rw[aF (by omega) (by omega)]) (λs _=>by
   simp only[kE,iT,h3];rw[aB ⟨by omega,h1⟩,dF (by omega),cFq]) xs h4
 have key:=(tA (xs:=h.Guests) (step:=nL h) (λs j=>(s,j)) (λs g=>g.Pages.foldl M.bump s) (λs=> .go s) (λk s=>Tl (8*k) s) (λk g s a1 a2 a3 a4=>by
  obtain⟨b1,b2⟩:=hin k g s a1 a2 a3 a4;refine⟨?_,b2.mono (by have:=(lY (List.all_eq_true.1 hall g a2)).2;omega)⟩;simp only[nL,dT a1,cTq];rw[b1];simp only[oB,LO.val,JO.run,aAi];rw[aF (by omega) (by omega)]) (λs _=>by
  simp only[nL];rw[dF (by omega),cFq]) (List.replicate 20 0) (Tl.zero.mono (by omega))).1
 unfold kV;rw[show Int.toNat (20:Int)=20 from rfl,key];simp only[oB,LO.val,JO.run,aAc];rw[qR];rfl
theorem bGu{h:DHost}(hs:SmallH h)(hk:HOk h):kV h=some (M.takers (M.slots h.Guests)):=bQq hk.three hk.all
theorem aTr{ss:List DSlot}(hss:ss.all M.slotOk=true){i:Nat}(hi:i<20){s:List Int}(hl:s.length<=i){Y:Type}:
 (grd ((0:Int)<=(i:Int)/\(i:Int)<((List.length (M.takers ss):Nat):Int)) (cond (decide ((List.getD (M.takers ss) i default)=(0:Int))) (grd ((List.length s+List.length ([(i:Int)]:List Int))*8<=2^47/\List.length s+List.length ([(i:Int)]:List Int)<=2^47) (some (JO.go (s++([(i:Int)]:List Int))))) (some (JO.go s))):Option (JO (List Int) Y))=some (.go (M.freeStep ss s i)):=by
 have hl2:=qM hss;have e0:decide ((M.takers ss).getD i default=0)=decide (M.many ss (i:Int)=0):=(by rw[decide_eq_decide,uN hss hi];omega);rw[aB ⟨by omega,by omega⟩,e0];unfold M.freeStep;(cases decide (M.many ss (i:Int)=0)with|true=>rw[cTq,cTq,aB ⟨by simp;omega,by simp;omega⟩]|false=>rfl)
theorem aWf{gs:List DGuest}(hl:gs.length<=1048576)(h:gs.all M.guestOk=true):mD gs=some (M.free (M.slots gs)):=by
 have hss:=tH h;have hl2:=qM hss;unfold mD;rw[aMn hl h,oB]
 have key:=(aFm (n:=20) (step:=jM (M.takers (M.slots gs))) (λs j=>(s,j)) (M.freeStep (M.slots gs)) (λs=>JO.go s) (λi s=>s.length<=i) (λi s hi hs=>by
  refine⟨?_,aHd hs⟩;simp only[jM,iT];rw[dT (p:=(i:Int)<_) (by omega),cTq,aTr hss hi hs,oB];simp only[JO.run,tR];rw[aF (by omega) (by omega)]) (λs _=>by
  simp only[jM];rw[dF (by omega),cFq]) [] (by simp)).1
 rw[key];rfl
theorem aEs{h:DHost}(hs:SmallH h):iX h=some (M.hostFree h):=by
 unfold iX M.hostFree;rw[aEt hs,oB];cases hh:M.hostOk h with
 |false=>rfl
 |true=>
  have hk:=eY.1 hh;have hss:=tH hk.all;rw[bT,cFq,bGu hs hk,oB]
  have key:=(aFm (n:=20) (step:=lI (M.takers (M.slots h.Guests))) (λs j=>(s,j)) (M.freeStep (M.slots h.Guests)) (λs=>JO.go s) (λi s=>s.length<=i) (λi s hi hs=>by
   refine⟨?_,aHd hs⟩;simp only[lI,iT];rw[dT (p:=(i:Int)<20) (by omega),cTq,aTr hss hi hs,oB];simp only[JO.run,wU];rw[aF (by omega) (by omega)]) (λs _=>by
   simp only[lI];rfl) [] (by simp)).1
  rw[key];rfl
namespace M
def zeros(xs:List Int):Bool:=(List.range 8).all λk=>decide (xs.getD k default=0)
def used(mem:List Int):Nat->Nat
 |0=>0
 |p+1=>used mem p+(bif zeros (page mem p)then 0 else 1)
def slotFor(mem free:List Int)(p:Nat):DSlot:=bif zeros (page mem p)then⟨-1,false,false⟩else⟨free.getD (used mem p) default,true,false⟩
def slotsFor(mem free:List Int)(n:Nat):List DSlot:=(List.range n).map (slotFor mem free)
def wordsFor(mem free:List Int)(ws:List Int):Nat->List Int
 |0=>ws
 |p+1=>bif zeros (page mem p)then wordsFor mem free ws p else over (wordsFor mem free ws p) ((free.getD (used mem p) default).toNat*8) 8 (page mem p)
noncomputable def gone (gs:List DGuest):Int:=bif (gs.getD 0 default).Live then(bif (gs.getD 1 default).Live then(bif (gs.getD 2 default).Live then-1 else 2)else 1)else 0
noncomputable def booted (h:DHost)(b:DBare):DHost:=⟨wordsFor b.Mem (free (slots h.Guests)) h.Words 8,h.Guests.set (gone h.Guests).toNat ⟨true,b.C,slotsFor b.Mem (free (slots h.Guests)) 8,b.In,b.Out⟩⟩
noncomputable def hostBoot (h:DHost)(b:DBare):DHost×Int×Bool:=bif hostOk h&&bareOk b&&(!decide (gone h.Guests=-1)&&decide (used b.Mem 8<=(free (slots h.Guests)).length))then(booted h b,gone h.Guests,true)else(⟨[],[]⟩,-1,false)
end M
theorem bJj{mem:List Int}{p q:Nat}(h:p<=q):M.used mem p<=M.used mem q:=by
 induction h with
 |refl=>exact Nat.le_refl _
 |step _ ih=>exact Nat.le_trans ih (by rw[M.used];omega)
theorem aQa{mem:List Int}{L n:Nat}:((List.range n).all λp=>M.zeros (M.page mem p)||decide (M.used mem p<L))=decide (M.used mem n<=L):=by
 apply dbe;simp only[List.all_eq_true,List.mem_range,Bool.or_eq_true,decide_eq_true_eq];constructor
 · intro h
   induction n with
   |zero=>simp[M.used]
   |succ n ih=>have h1:=ih λp hp=>h p (by omega);rcases h n (by omega)with h2|h2;{rw[M.used,h2];exact h1};{rw[M.used];cases M.zeros (M.page mem n)<;>simp<;>omega}
 {intro h p hp;(cases hz:M.zeros (M.page mem p)with|true=>exact .inl rfl|false=>have:=bJj (mem:=mem) (show p+1<=n by omega);rw[M.used,hz]at this;simp only[cFq]at this;exact .inr (by omega))}
theorem aOt{ss:List DSlot}{i:Nat}(hi:i<(M.free ss).length):0<=(M.free ss).getD i default/\(M.free ss).getD i default<20:=by have hm:=cX hi;rw[vB]at hm;obtain⟨j,hj,e⟩:=List.mem_map.1 hm;have:=(List.mem_filter.1 hj).1;rw[List.mem_range]at this;rw[vB,<-e];omega
theorem bOp{xs:List Int}{p:Nat}(h:p*8+8<=xs.length):(M.page xs p).length=8:=aFk h
theorem zW{mem ws:List Int}{ss:List DSlot}(hw:ws.length=160):∀{p:Nat},p<=8->M.used mem p<=(M.free ss).length->(M.wordsFor mem (M.free ss) ws p).length=160
 |0,_,_=>hw
 |p+1,h8,hu=>by have eu:M.used mem (p+1)=M.used mem p+(bif M.zeros (M.page mem p)then 0 else 1):=rfl;have ih:=zW (mem:=mem) (ss:=ss) hw (p:=p) (by omega) (by omega);unfold M.wordsFor;(cases hz:M.zeros (M.page mem p)with|true=>rw[cTq];exact ih|false=>rw[hz]at eu;simp only[cFq]at eu;have:=aOt (ss:=ss) (i:=M.used mem p) (by omega);rw[cFq,lP (by omega),ih])
theorem bDg(gs:List DGuest):-1<=M.gone gs/\M.gone gs<=2:=by unfold M.gone;cases(gs.getD 0 default).Live<;>cases(gs.getD 1 default).Live<;>cases(gs.getD 2 default).Live<;>simp
theorem bHw{b:DBare}(h:M.bareOk b=true):b.Mem.length=64:=by unfold M.bareOk at h;simp only[bA]at h;exact aTk h.1.1.2
theorem bMc{T:Type}{xs ys:List T}{o k:Nat}(h:ys.length=8)(hk:8<=k):over xs o k ys=over xs o 8 ys:=by simp only[over,h];rw[Nat.min_eq_right hk,Nat.min_self]
theorem bLf{T:Type}[Inhabited T]{xs:List T}{u:Nat}:(xs.drop u).getD 0 default=xs.getD u default:=by simp[List.getD]
theorem bHi{T:Type}{xs:List T}{u n:Nat}(h:n=(xs.drop u).length):List.take (Int.toNat (n:Int)-Int.toNat 1) (List.drop (Int.toNat 1) (xs.drop u))=xs.drop (u+1):=by rw[show Int.toNat 1=1 from rfl,List.drop_drop,iT];apply List.take_of_length_le;rw[h];simp;omega
theorem aTs{mem:List Int}{p:Nat}(h:p<8):List.take (Int.toNat (w64 ((w64 ((p:Int)+1))*8))-Int.toNat (w64 ((p:Int)*8))) (List.drop (Int.toNat (w64 ((p:Int)*8))) mem)=M.page mem p:=by rw[aF (z:=(p:Int)+1) (by omega) (by omega),aF (z:=((p:Int)+1)*8) (by omega) (by omega),aF (z:=(p:Int)*8) (by omega) (by omega)];rw[show Int.toNat (((p:Int)+1)*8)-Int.toNat ((p:Int)*8)=8 by omega,show Int.toNat ((p:Int)*8)=p*8 by omega];rfl
theorem bTr{h:DHost}(hk:HOk h):iter (fE h) (-1,2)=some (.ret (.go (M.gone h.Guests))):=by
 have h3:=hk.three
 have st:∀(i:Nat) (a:Int),i<3->fE h (a,(i:Int))=some (.next (bif (h.Guests.getD i default).Live then a else(i:Int),(i:Int)-1)):=λi a hi=>by
  simp only[fE,iT];rw[dT (p:=(0:Int)<=(i:Int)) (by omega),cTq,aB ⟨by omega,by omega⟩];cases(h.Guests.getD i default).Live
  all_goals
   simp only[bT,bF,cTq,cFq,oB,JO.run,uQ];rw[aF (by omega) (by omega)]
 have sn:∀a:Int,fE h (a,-1)=some (.ret (.go a)):=λa=>by simp only[fE];rfl
 rw[show(2:Int)=((2:Nat):Int)from rfl,eN,st 2 _ (by omega)];simp only;rw[show((2:Nat):Int)-1=((1:Nat):Int)from rfl,eN,st 1 _ (by omega)];simp only;rw[show((1:Nat):Int)-1=((0:Nat):Int)from rfl,eN,st 0 _ (by omega)];simp only;rw[show((0:Nat):Int)-1=-1 from rfl,eN,sn];unfold M.gone;cases(h.Guests.getD 0 default).Live<;>cases(h.Guests.getD 1 default).Live<;>cases(h.Guests.getD 2 default).Live<;>rfl
theorem bHc{b:DBare}{s:List Int×List Int×List DSlot×Int}{p:Nat}(hp:p<8)(hs:s.2.2.2=(p:Int))(hm:b.Mem.length=64):iter (gT b s) (true,0)=some (.ret (.go (M.zeros (M.page b.Mem p)))):=by
 have hl:=bOp (xs:=b.Mem) (p:=p) (by omega)
 have key:=jT (n:=8) (step:=gT b s) (λk=>((List.range k).all λj=>decide ((M.page b.Mem p).getD j default=0),(k:Int))) (λ_=>true) (JO.go (M.zeros (M.page b.Mem p))) (.go true) (λk hk _=>by
  simp only[gT,hs,aTs hp,iT];rw[dT (p:=(k:Int)<8) (by omega),cTq];have er:((List.range (k+1)).all λj=>decide ((M.page b.Mem p).getD j default=0))=(((List.range k).all λj=>decide ((M.page b.Mem p).getD j default=0))&&decide ((M.page b.Mem p).getD k default=0)):=(by rw[List.range_succ,List.all_append];simp);rw[er];cases((List.range k).all λj=>decide ((M.page b.Mem p).getD j default=0))with
  |true=>rw[cTq,aB ⟨by omega,by omega⟩];simp only[oB,JO.run,oK,Bool.true_and,cTq];rw[aF (by omega) (by omega)];rfl
  |false=>simp only[cFq,oB,JO.run,oK,Bool.false_and,cTq];rw[aF (by omega) (by omega)];rfl) (λ_=>by
  simp only[gT];rfl)
 rw[show(List.range 8).all (λ_=>true)=true by simp,cTq]at key;exact key
theorem bEb{b:DBare}{ws:List Int}{ss:List DSlot}{g:Int}(hg:0<=g)(hw:ws.length=160)(hm:b.Mem.length=64):
 iter (fS b g) (ws,M.free ss,[],0)=some (.ret (bif decide (M.used b.Mem 8<=(M.free ss).length)then .go (M.wordsFor b.Mem (M.free ss) ws 8,M.slotsFor b.Mem (M.free ss) 8)else .out (⟨[],[]⟩,-1,false))):=by
 have hfl:=bKy (ss:=ss)
 have key:=jT (n:=8) (step:=fS b g) (λp=>(M.wordsFor b.Mem (M.free ss) ws p,(M.free ss).drop (M.used b.Mem p),M.slotsFor b.Mem (M.free ss) p,(p:Int))) (λp=>M.zeros (M.page b.Mem p)||decide (M.used b.Mem p<(M.free ss).length))
  (JO.go (M.wordsFor b.Mem (M.free ss) ws 8,M.slotsFor b.Mem (M.free ss) 8)) (.out (⟨[],[]⟩,-1,false)) (λp hp ho=>by
  have hu:M.used b.Mem p<=(M.free ss).length:=(by have:((List.range p).all λp=>M.zeros (M.page b.Mem p)||decide (M.used b.Mem p<(M.free ss).length))=true:=(by simp only[List.all_eq_true,List.mem_range];exact ho);rw[aQa,decide_eq_true_eq]at this;exact this);have hlen:=zW (mem:=b.Mem) (ss:=ss) hw (p:=p) (by omega) hu;have hpl:=bOp (xs:=b.Mem) (p:=p) (by omega);have hsl:(M.slotsFor b.Mem (M.free ss) p).length=p:=(by simp[M.slotsFor]);have es:M.slotsFor b.Mem (M.free ss) (p+1)=M.slotsFor b.Mem (M.free ss) p++[M.slotFor b.Mem (M.free ss) p]:=(by simp[M.slotsFor,List.range_succ]);have ew:M.wordsFor b.Mem (M.free ss) ws (p+1)=(bif M.zeros (M.page b.Mem p)then M.wordsFor b.Mem (M.free ss) ws p else over (M.wordsFor b.Mem (M.free ss) ws p) (((M.free ss).getD (M.used b.Mem p) default).toNat*8) 8 (M.page b.Mem p)):=rfl;have eu:M.used b.Mem (p+1)=M.used b.Mem p+(bif M.zeros (M.page b.Mem p)then 0 else 1):=rfl;have b1:w64 ((p:Int)*8)=(p:Int)*8:=aF (by omega) (by omega);have b2:w64 ((w64 ((p:Int)+1))*8)=((p:Int)+1)*8:=(by rw[aF (z:=(p:Int)+1) (by omega) (by omega),aF (by omega) (by omega)]);simp only[fS];rw[dT (p:=(p:Int)<8) (by omega),cTq,dT hg,cTq,aB ⟨by omega,by omega,by omega⟩,bHc hp rfl hm];simp only[oB,LO.val,JO.run,uS,aTs hp];cases hz:M.zeros (M.page b.Mem p)with
  |true=>have:(⟨-1,false,false⟩:DSlot)=M.slotFor b.Mem (M.free ss) p:=(by unfold M.slotFor;rw[hz];rfl);rw[hz,cTq]at ew eu;rw[cTq,aB ⟨by simp;omega,by simp;omega⟩];simp only[oB,JO.run,pK,Bool.true_or,cTq];rw[aF (by omega) (by omega),this,<-es,ew,eu];rfl
  |false=>
   have:(⟨(M.free ss).getD (M.used b.Mem p) default,true,false⟩:DSlot)=M.slotFor b.Mem (M.free ss) p:=(by unfold M.slotFor;rw[hz];rfl);rw[hz,cFq]at ew eu;rw[cFq,Bool.false_or];by_cases e:M.used b.Mem p<(M.free ss).length;{have hr:=aOt (ss:=ss) (i:=M.used b.Mem p) e;have hdl:((M.free ss).drop (M.used b.Mem p)).length=(M.free ss).length-M.used b.Mem p:=(by simp);rw[dF (p:=(((List.drop (M.used b.Mem p) (M.free ss)).length:Nat):Int)=0) (by omega),cFq,show Int.toNat (0:Int)=0 from rfl,bLf];rw[aF (z:=(M.free ss).getD (M.used b.Mem p) default*8) (by omega) (by omega),aB ⟨by omega,by omega⟩,aB ⟨by omega,by omega,by omega⟩,aB ⟨by omega,by omega⟩,aB ⟨by simp;omega,by simp;omega⟩,aB ⟨by omega,by omega,by omega⟩];simp only[oB,JO.run,pK];rw[aF (by omega) (by omega),this,<-es,bHi rfl,bMc hpl (by omega),dT e,ew,eu];rw[show Int.toNat ((M.free ss).getD (M.used b.Mem p) default*8)=((M.free ss).getD (M.used b.Mem p) default).toNat*8 by omega];rfl}
   · rw[dF e,dT (p:=(((List.drop (M.used b.Mem p) (M.free ss)).length:Nat):Int)=0) (by simp;omega)];rfl) (λ_=>by
  simp only[fS];rfl)
 rw[aQa]at key;exact key
theorem bGa{h:DHost}{b:DBare}(hs:SmallH h)(hb:SmallB b):oO h b=some (M.hostBoot h b):=by unfold oO M.hostBoot;rw[aEt hs,oB];(cases hh:M.hostOk h with|false=>rfl|true=>have hk:=eY.1 hh;have h3:=hk.three;rw[bT,cFq,bLi hb,oB,Bool.true_and];(cases hbk:M.bareOk b with|false=>rfl|true=>have hm:=bHw hbk;have hr:=bDg h.Guests;have:=hb.i;have:=hb.o;rw[bT,cFq,aIi hs hk.all,oB,bTr hk,Bool.true_and];simp only[oB,LO.val,JO.run,xD];have ef:M.hostFree h=M.free (M.slots h.Guests):=(by unfold M.hostFree;rw[hh];rfl);rw[aEs hs,oB,ef,aVh hb.c,oB,aB ⟨by omega,by omega⟩,aB ⟨by omega,by omega⟩];by_cases e:M.gone h.Guests=-1;{rw[dT e,e];rw[show iter (fS b (-1)) (h.Words,M.free (M.slots h.Guests),[],0)=some (.ret (.go (h.Words,[]))) by rw[eN];rfl];rfl};{rw[bEb (by omega) hk.len hm,dF e,bF,Bool.true_and];(cases decide (M.used b.Mem 8<=(M.free (M.slots h.Guests)).length)with|false=>rfl|true=>simp only[cTq,oB,LO.val,JO.run,wW];rw[dF (by omega),cFq,aB ⟨by omega,by omega⟩];rfl)}))
theorem aJj{a b:Int}(ha:0<=a)(hb:0<b):0<=Int.tmod a b/\Int.tmod a b<b:=by rw[Int.tmod_eq_emod_of_nonneg ha];exact⟨Int.emod_nonneg _ (by omega),Int.emod_lt_of_pos _ hb⟩
theorem bQl:mT=some true:=rfl
def enc(e:DEntry):Int:=8*e.Page+(bif e.There then 1 else 0)+(bif e.Write then 2 else 0)+(bif e.User then 4 else 0)
theorem bDs{p:Int}(h0:0<=p)(h7:p<=7):p=0\/p=1\/p=2\/p=3\/p=4\/p=5\/p=6\/p=7:=by omega
theorem aZy{e:DEntry}(h0:0<=e.Page)(h7:e.Page<=7):dP e=some (enc e):=by obtain⟨t,w,u,p⟩:=e;rcases bDs h0 h7 with h|h|h|h|h|h|h|h<;>simp only at h<;>subst h<;>cases t<;>cases w<;>cases u<;>rfl
theorem aOh{e:DEntry}(h:¬(0<=e.Page/\e.Page<=7)):dP e=some (-1):=by unfold dP bU;rw[show∀b y:Bool,(cond b (some y) (some false))=some (b&&y)from λb y=>by cases b<;>rfl];have e1:(decide (0<=e.Page)&&decide (e.Page<=7))=false:=(by rw[Bool.eq_false_iff];simp;omega);rw[e1];rfl
theorem bAa(a b:Nat)(ha:a<9223372036854775808)(hb:b<9223372036854775808):bits .xor .i64 (a:Int) (b:Int)=((a^^^b:Nat):Int):=by have hx:a^^^b<2^63:=Nat.xor_lt_two_pow (by omega) (by omega);have h1:(BitVec.ofInt 64 (a:Int)).toNat=a:=(by rw[BitVec.ofInt_natCast,BitVec.toNat_ofNat];exact Nat.mod_eq_of_lt (by omega));have h2:(BitVec.ofInt 64 (b:Int)).toNat=b:=(by rw[BitVec.ofInt_natCast,BitVec.toNat_ofNat];exact Nat.mod_eq_of_lt (by omega));show IntKind.i64.wrap ((BitVec.ofInt 64 (a:Int)^^^BitVec.ofInt 64 (b:Int)).toNat:Int)=_;rw[BitVec.toNat_xor,h1,h2];exact aDs (by omega) (by omega)
theorem bUg{a b:Int}(a0:0<=a)(a1:a<=9223372036854775807)(b0:0<=b)(b1:b<=9223372036854775807):0<=bits .xor .i64 a b:=by obtain⟨x,rfl⟩:=Int.eq_ofNat_of_zero_le a0;obtain⟨y,rfl⟩:=Int.eq_ofNat_of_zero_le b0;rw[bAa x y (by omega) (by omega)];omega
theorem aRp{b:List Int}(hb:∀x∈b,0<=x/\x<=255)(i:Nat):0<=b.getD i default/\b.getD i default<=255:=by by_cases h:i<b.length;{rw[List.getD,List.getElem?_eq_getElem h];exact hb _ (List.getElem_mem h)};{rw[List.getD,List.getElem?_eq_none (by omega)];exact⟨by decide,by decide⟩}
theorem bPw{r:Dl20Rd}{n:Int}(hn:1<=n)(h0:0<=r.p)(h1:r.p<=1000000)(hb:∀x∈r.b,0<=x/\x<=255):∃v,aA r n=some (⟨r.b,r.p+1⟩,v)/\0<=v/\v<n:=by
 unfold aA;have e1:w64 (r.p+1)=r.p+1:=aF (by omega) (by omega);rw[e1,show r.p+1-1=r.p by omega,aF (z:=r.p) (by omega) (by omega),decide_eq_false (show¬n<1 by omega),cond_false];by_cases hl:((r.b.length:Nat):Int)=0;{rw[decide_eq_true hl];exact⟨_,rfl,by omega,by omega⟩}
 · rw[decide_eq_false hl,cond_false]
   have hp:(0:Int)<((r.b.length:Nat):Int):=(by omega);have hn0:n≠0:=(by omega);by_cases hk:r.p<((r.b.length:Nat):Int)
   · rw[decide_eq_true hk,cond_true,aB ⟨h0,hk⟩,aB hn0]
     have g:=aRp hb r.p.toNat
     rw[aDs (by omega) (by omega)];exact⟨_,rfl,aJj g.1 (by omega)⟩
   {have e2:w64 (w64 (r.p*7)+3)=r.p*7+3:=(by rw[aF (z:=r.p*7) (by omega) (by omega),aF (by omega) (by omega)]);rw[decide_eq_false hk,cond_false,e2,aB hl,aB (aJj h0 hp),aB hl,aB (aJj (by omega) hp),aB hl,aB hn0];have g1:=aRp hb (Int.toNat (Int.tmod r.p ((r.b.length:Nat):Int)));have g2:=aRp hb (Int.toNat (Int.tmod (r.p*7+3) ((r.b.length:Nat):Int)));generalize r.b.getD (Int.toNat (Int.tmod r.p ((r.b.length:Nat):Int))) default=X at g1 ⊢;generalize r.b.getD (Int.toNat (Int.tmod (r.p*7+3) ((r.b.length:Nat):Int))) default=Y at g2 ⊢;have q:Int.tdiv r.p ((r.b.length:Nat):Int)=r.p/((r.b.length:Nat):Int):=Int.tdiv_eq_ediv_of_nonneg h0;have q0:0<=r.p/((r.b.length:Nat):Int):=Int.ediv_nonneg h0 (by omega);have q1:r.p/((r.b.length:Nat):Int)<=r.p:=Int.ediv_le_self _ h0;rw[q];generalize r.p/((r.b.length:Nat):Int)=Q at q0 q1 ⊢;have k1:IntKind.wrap .i64 X=X:=aDs (by omega) (by omega);have k2:IntKind.wrap .i64 Y=Y:=aDs (by omega) (by omega);have k3:w64 (w64 (w64 (w64 (X*131)+w64 (Y*1117))+w64 (r.p*29))+w64 (w64 Q*53))=X*131+Y*1117+r.p*29+Q*53:=(by rw[aF (z:=X*131) (by omega) (by omega),aF (z:=Y*1117) (by omega) (by omega),aF (z:=X*131+Y*1117) (by omega) (by omega),aF (z:=r.p*29) (by omega) (by omega),aF (z:=X*131+Y*1117+r.p*29) (by omega) (by omega),aF (z:=Q) (by omega) (by omega),aF (z:=Q*53) (by omega) (by omega),aF (by omega) (by omega)]);rw[k1,k2,k3];have a0:0<=X*131+Y*1117+r.p*29+Q*53:=(by omega);have a1:X*131+Y*1117+r.p*29+Q*53<=9223372036854775807:=(by omega);generalize X*131+Y*1117+r.p*29+Q*53=A at a0 a1 ⊢;have d:Int.tdiv A 64=A/64:=Int.tdiv_eq_ediv_of_nonneg a0;rw[d,aF (z:=A/64) (by omega) (by omega)];exact⟨_,rfl,aJj (bUg a0 a1 (by omega) (by omega)) (by omega)⟩}
structure Rdr (m : Int) (r : Dl20Rd) : Prop where
 b:∀x∈r.b,0<=x/\x<=255
 p0:0<=r.p
 p1:r.p<=m
theorem Rdr.up{m n:Int}{r:Dl20Rd}(h:Rdr m r)(hn:m<=n):Rdr n r:=⟨h.b,h.p0,Int.le_trans h.p1 hn⟩
theorem aV{m n:Int}{r:Dl20Rd}(R:Rdr m r)(hm:m<=1000000)(hn:1<=n):Ex (aA r n) (λv=>Rdr (m+1) v.1/\0<=v.2/\v.2<n):=by obtain⟨b,p0,p1⟩:=R;obtain⟨v,h1,h2,h3⟩:=bPw hn p0 (by omega) b;exact⟨_,h1,⟨b,by show 0<=r.p+1;omega,by show r.p+1<=m+1;omega⟩,h2,h3⟩
theorem aQi{m:Int}{r:Dl20Rd}(R:Rdr m r)(hm:m<=999999):Ex (dD r) (λv=>Rdr (m+2) v.1/\0<=v.2/\v.2<=4095):=by unfold dD;refine Ex.bind (aV R (by omega) (by omega)) λv1 ⟨R1,a1,b1⟩=>?_;refine Ex.bind (aV R1 (by omega) (by omega)) λv2 ⟨R2,a2,b2⟩=>?_;rw[aF (z:=v1.2*256) (by omega) (by omega),aF (by omega) (by omega)];exact Ex.ret ⟨R2.up (by omega),by show 0<=v1.2*256+v2.2;omega,by show v1.2*256+v2.2<=4095;omega⟩
theorem bQy{xs:List Int}(h:∀x∈xs,0<=x/\x<=255):Ex (jW xs) (λr=>Rdr 0 r):=by unfold jW;refine Ex.join (P:=λs=>∀x∈s,0<=x/\x<=255) ?_ λs hs=>Ex.ret ⟨hs,Int.le_refl _,Int.le_refl _⟩;refine Ex.cond (λhc=>?_) λhc=>Ex.ret ⟨_,rfl,h⟩;have:=of_decide_eq_true hc;exact Ex.grd ⟨by omega,by omega,by omega⟩ (Ex.ret ⟨_,rfl,λx hx=>h x (List.mem_of_mem_drop (List.mem_of_mem_take hx))⟩)
theorem bDq{m n:Int}{r:Dl20Rd}(R:Rdr m r)(hm:m<=1000000):Ex (bX r n) (λv=>Rdr (m+1) v.1):=by unfold bX;refine Ex.cond (λh=>?_) λ_=>Ex.ret (R.up (by omega));have:=of_decide_eq_true h;exact Ex.bind (aV R hm (by omega)) λv1 ⟨R1,_,_⟩=>Ex.ret R1
theorem bHk{m n:Int}{r:Dl20Rd}(R:Rdr m r)(hm:m<=1000000):Ex (bX r n) (λv=>Rdr (m+1) v.1/\(n<=0->v.2=false)):=by unfold bX;refine Ex.cond (λh=>?_) λ_=>Ex.ret ⟨R.up (by omega),λ_=>rfl⟩;have:=of_decide_eq_true h;exact Ex.bind (aV R hm (by omega)) λv1 ⟨R1,_,_⟩=>Ex.ret ⟨R1,λ_=>by omega⟩
theorem aLj(e:DEntry):Ex (dP e) (λ_=>True):=by by_cases h:0<=e.Page/\e.Page<=7;{rw[aZy h.1 h.2];exact Ex.ret trivial};{rw[aOh h];exact Ex.ret trivial}
theorem bLg{m:Int}(hm:m<=990000)(h0:0<=m)(s:List Int×Int×List Int×Int)(hs:0<=s.2.2.2/\s.2.2.2<=64/\Rdr (m+8*s.2.2.2) ⟨s.1,s.2.1⟩/\(s.2.2.1.length:Int)=s.2.2.2):
 Ex (sM s) (λo=>(∃s',o= .next s'/\(0<=s'.2.2.2/\s'.2.2.2<=64/\Rdr (m+8*s'.2.2.2) ⟨s'.1,s'.2.1⟩/\(s'.2.2.1.length:Int)=s'.2.2.2)/\64-s'.2.2.2.toNat<64-s.2.2.2.toNat)\/∃t,o= .ret (.go t)/\(Rdr (m+512) ⟨t.1,t.2.1⟩/\t.2.2.length=64)):=by
 obtain⟨b,p,mem,k⟩:=s;obtain⟨k0,k1,R,hl⟩:=hs;simp only at k0 k1 R hl;unfold sM;refine Ex.cond (λhk=>?_) λhk=>?_
 · have hk:k<64:=of_decide_eq_true hk
   refine Ex.join (P:=λs8:List Int×Int×Int=>Rdr (m+8*k+3) ⟨s8.1,s8.2.1⟩) ?_ λs8 R8=>?_;{refine Ex.bind (aV R (by omega) (by omega)) λv1 ⟨R1,a1,b1⟩=>?_;refine Ex.cond (λ_=>?_) λ_=>?_;{exact Ex.bind (aQi R1 (by omega)) λv2 ⟨R2,_,_⟩=>Ex.ret ⟨_,rfl,R2.up (by omega)⟩};{exact Ex.ret ⟨_,rfl,R1.up (by omega)⟩}}
   · unfold aAr
     refine Ex.join (P:=λs9:List Int×Int×Int=>Rdr (m+8*k+7) ⟨s9.1,s9.2.1⟩) ?_ λs9 R9=>?_
     · have e:∀Q:JO (List Int×Int×Int) (LO (List Int×Int×List Int×Int) (JO (List Int×Int×List Int) (Dl20Rd×List Int)))->Prop,(∀v:Dl20Rd×Int,∀w,Rdr (m+8*k+7) v.1->Q (.go (v.1.b,v.1.p,w)))->Ex (Option.bind (aA (Dl20Rd.mk s8.1 s8.2.1) (5:Int)) λv10=>
        Option.bind (aA v10.1 (4:Int)) λv11=>
        Option.bind (aA v11.1 (3:Int)) λv12=>
        Option.bind (aA v12.1 (8:Int)) λv13=>
        Option.bind (dP (DEntry.mk (decide ((0:Int)<v10.2)) (decide ((0:Int)<v11.2)) (decide ((0:Int)<v12.2)) v13.2)) λv14=>
        some (.go (v13.1.b,v13.1.p,v14))) Q:=λQ hQ=>by
        refine Ex.bind (aV R8 (by omega) (by omega)) λv1 ⟨R1,a1,b1⟩=>?_;refine Ex.bind (aV R1 (by omega) (by omega)) λv2 ⟨R2,a2,b2⟩=>?_;refine Ex.bind (aV R2 (by omega) (by omega)) λv3 ⟨R3,a3,b3⟩=>?_;refine Ex.bind (aV R3 (by omega) (by omega)) λv4 ⟨R4,a4,b4⟩=>?_;refine Ex.bind (aLj _) λv5 _=>?_;exact Ex.ret (hQ v4 v5 (R4.up (by omega)))
       refine Ex.cond (λ_=>?_) λ_=>?_;{exact e _ λv w h=>⟨_,rfl,h⟩};{refine Ex.cond (λ_=>?_) λ_=>?_;{exact e _ λv w h=>⟨_,rfl,h⟩};{exact Ex.ret ⟨_,rfl,R8.up (by omega)⟩}}
     · unfold aAh
       refine Ex.grd ⟨by simp only[List.length_cons,List.length_nil];omega,by simp only[List.length_cons,List.length_nil];omega⟩ (Ex.ret (.inl ⟨_,rfl,⟨?_,?_,?_,?_⟩,?_⟩));all_goals simp only[aF (z:=k+1) (by omega) (by omega),List.length_append,List.length_cons,List.length_nil]
       {omega};{omega};{exact R9.up (by omega)};{omega};{omega}
 {have hk:¬k<64:=of_decide_eq_false hk;exact Ex.ret (.inr ⟨_,rfl,R.up (by omega),by show mem.length=64;omega⟩)}
theorem bOo{m n:Int}{r:Dl20Rd}(R:Rdr m r)(h0:0<=m)(hm:m<=990000):Ex (oC r n) (λv=>Rdr (m+600) v.1/\v.2.length<=64/\(n<=0->v.2.length=64)):=by unfold oC;refine Ex.join (Ex.loopv (λs:List Int×Int×List Int×Int=>0<=s.2.2.2/\s.2.2.2<=64/\Rdr (m+8*s.2.2.2) ⟨s.1,s.2.1⟩/\(s.2.2.1.length:Int)=s.2.2.2) (λs=>64-s.2.2.2.toNat) (λt=>Rdr (m+512) ⟨t.1,t.2.1⟩/\t.2.2.length=64) ⟨by simp,by simp,R.up (by simp),by simp⟩ (bLg hm h0)) λs1 ⟨R1,hl⟩=>?_;unfold zO;refine Ex.join (P:=λs2:List Int×Int×List Int=>Rdr (m+600) ⟨s2.1,s2.2.1⟩/\s2.2.2.length<=64/\(n<=0->s2.2.2.length=64)) ?_ λs2 h2=>Ex.ret h2;refine Ex.bind (bHk R1 (by omega)) λv3 ⟨R3,o3⟩=>?_;refine Ex.cond (λhv=>?_) λ_=>?_;{refine Ex.bind (aV R3 (by omega) (by omega)) λv4 ⟨R4,a4,b4⟩=>?_;refine Ex.cond (λ_=>?_) λ_=>?_;{exact Ex.grd ⟨by omega,by omega,by omega⟩ (Ex.ret ⟨_,rfl,R4.up (by omega),by rw[List.length_take];omega,λhn=>by rw[o3 hn]at hv;cases hv⟩)};{refine Ex.bind (aV R4 (by omega) (by omega)) λv5 ⟨R5,a5,b5⟩=>?_;refine Ex.bind (aV R5 (by omega) (by omega)) λv6 ⟨R6,a6,b6⟩=>?_;exact Ex.grd ⟨by omega,by omega⟩ (Ex.ret ⟨_,rfl,R6.up (by omega),by rw[lS];omega,λhn=>by rw[o3 hn]at hv;cases hv⟩)}};{exact Ex.ret ⟨_,rfl,R3.up (by omega),by show s1.2.2.length<=64;omega,λ_=>hl⟩}
theorem bQk{Q:Bool->Prop}(h:Q true):Ex mT Q:=⟨_,bQl,h⟩
theorem bIi{m:Int}(hm:m<=990000)(h0:0<=m)(s:List Int×Int×List Int×Int)(hs:0<=s.2.2.2/\s.2.2.2<=4/\Rdr (m+8*s.2.2.2) ⟨s.1,s.2.1⟩/\(s.2.2.1.length:Int)=s.2.2.2):
 Ex (pR s) (λo=>(∃s',o= .next s'/\(0<=s'.2.2.2/\s'.2.2.2<=4/\Rdr (m+8*s'.2.2.2) ⟨s'.1,s'.2.1⟩/\(s'.2.2.1.length:Int)=s'.2.2.2)/\4-s'.2.2.2.toNat<4-s.2.2.2.toNat)\/∃t,o= .ret (.go t)/\(Rdr (m+32) ⟨t.1,t.2.1⟩/\t.2.2.length=4)):=by
 obtain⟨b,p,rs,k⟩:=s;obtain⟨k0,k1,R,hl⟩:=hs;simp only at k0 k1 R hl;unfold pR;refine Ex.cond (λhk=>?_) λhk=>?_
 · have hk:k<4:=of_decide_eq_true hk
   refine Ex.bind (aV R (by omega) (by omega)) λv1 ⟨R1,a1,b1⟩=>?_;refine Ex.bind (aV R1 (by omega) (by omega)) λv2 ⟨R2,a2,b2⟩=>?_;refine Ex.bind (aQi R2 (by omega)) λv3 ⟨R3,a3,b3⟩=>?_;refine Ex.bind (aV R3 (by omega) (by omega)) λv4 ⟨R4,a4,b4⟩=>?_;refine Ex.grd ⟨a4,by simp only[List.length_cons,List.length_nil];omega⟩ ?_;refine Ex.grd ⟨by simp only[List.length_cons,List.length_nil];omega,by simp only[List.length_cons,List.length_nil];omega⟩ (Ex.ret (.inl ⟨_,rfl,⟨?_,?_,?_,?_⟩,?_⟩));all_goals simp only[aF (z:=k+1) (by omega) (by omega),List.length_append,List.length_cons,List.length_nil]
   {omega};{omega};{exact R4.up (by omega)};{omega};{omega}
 {have hk:¬k<4:=of_decide_eq_false hk;exact Ex.ret (.inr ⟨_,rfl,R.up (by omega),by show rs.length=4;omega⟩)}
theorem bGr{m n:Int}{r:Dl20Rd}(R:Rdr m r)(h0:0<=m)(hm:m<=980000):Ex (mX r n) (λv=>Rdr (m+60) v.1/\v.2.Regs.length<=4):=by unfold mX;refine Ex.bind (aV R (by omega) (by omega)) λv1 ⟨R1,a1,b1⟩=>?_;refine Ex.bind (aV R1 (by omega) (by omega)) λv2 ⟨R2,a2,b2⟩=>?_;refine Ex.grd ⟨a2,by simp only[List.length_cons,List.length_nil];omega⟩ ?_;refine Ex.bind (aV R2 (by omega) (by omega)) λv3 ⟨R3,a3,b3⟩=>?_;refine Ex.bind (aV R3 (by omega) (by omega)) λv4 ⟨R4,a4,b4⟩=>?_;refine Ex.bind (aV R4 (by omega) (by omega)) λv5 ⟨R5,a5,b5⟩=>?_;refine Ex.bind (aV R5 (by omega) (by omega)) λv6 ⟨R6,a6,b6⟩=>?_;refine Ex.bind (aV R6 (by omega) (by omega)) λv7 ⟨R7,a7,b7⟩=>?_;refine Ex.bind (aV R7 (by omega) (by omega)) λv8 ⟨R8,a8,b8⟩=>?_;refine Ex.bind (aV R8 (by omega) (by omega)) λv9 ⟨R9,a9,b9⟩=>?_;refine Ex.bind (aV R9 (by omega) (by omega)) λv10 ⟨R10,a10,b10⟩=>?_;refine Ex.bind (aV R10 (by omega) (by omega)) λv11 ⟨R11,a11,b11⟩=>?_;refine Ex.bind (aV R11 (by omega) (by omega)) λv12 ⟨R12,a12,b12⟩=>?_;refine Ex.bind (aV R12 (by omega) (by omega)) λv13 ⟨R13,a13,b13⟩=>?_;have R13:Rdr (m+13) v13.1:=R13.up (by omega);refine Ex.join (Ex.loopv (λs:List Int×Int×List Int×Int=>0<=s.2.2.2/\s.2.2.2<=4/\Rdr (m+13+8*s.2.2.2) ⟨s.1,s.2.1⟩/\(s.2.2.1.length:Int)=s.2.2.2) (λs=>4-s.2.2.2.toNat) (λt=>Rdr (m+13+32) ⟨t.1,t.2.1⟩/\t.2.2.length=4) ⟨by simp,by simp,R13.up (by simp),by simp⟩ (bIi (by omega) (by omega))) λs1 ⟨RL,hl⟩=>?_;unfold wJ;refine Ex.join (P:=λs2:List Int×Int×List Int×Int×Int=>Rdr (m+60) ⟨s2.1,s2.2.1⟩/\s2.2.2.1.length<=4) ?_ λs2 h2=>Ex.ret h2;refine Ex.bind (bDq RL (by omega)) λv16 R16=>?_;have R16:Rdr (m+46) v16.1:=R16.up (by omega);refine Ex.cond (λ_=>?_) λ_=>?_;{refine Ex.bind (aV R16 (by omega) (by omega)) λv17 ⟨R17,a17,b17⟩=>?_;refine Ex.cond (λ_=>?_) λ_=>?_;{exact Ex.grd ⟨by omega,by omega,by omega⟩ (Ex.ret ⟨_,rfl,R17.up (by omega),by simp only[List.length_take];omega⟩)};{refine Ex.cond (λ_=>?_) λ_=>?_;{exact Ex.bind (aV R17 (by omega) (by omega)) λv18 ⟨R18,a18,b18⟩=>Ex.ret ⟨_,rfl,R18.up (by omega),by simp only;omega⟩};{refine Ex.cond (λ_=>?_) λ_=>?_;{exact Ex.bind (aV R17 (by omega) (by omega)) λv18 ⟨R18,a18,b18⟩=>Ex.ret ⟨_,rfl,R18.up (by omega),by simp only;omega⟩};{exact Ex.bind (aV R17 (by omega) (by omega)) λv18 ⟨R18,a18,b18⟩=>Ex.grd ⟨by omega,by omega⟩ (Ex.ret ⟨_,rfl,R18.up (by omega),by simp only[lS];omega⟩)}}}};{exact Ex.ret ⟨_,rfl,R16.up (by omega),by simp only;omega⟩}
namespace M
def insOk(x:DIns):Bool:=inR 0 15 x.Op&&inR 0 3 x.A&&inR 0 63 x.N
end M
theorem aRz(x:DIns):pO x=some (M.insOk x):=by unfold pO;rw[nR,nR,nR];simp only[oB,M.insOk];cases M.inR 0 15 x.Op<;>cases M.inR 0 3 x.A<;>cases M.inR 0 63 x.N<;>rfl
theorem bJn(x:DIns):Ex (qP x) (λ_=>True):=by unfold qP;rw[aRz];exact Ex.cond (λ_=>Ex.ret trivial) λ_=>Ex.ret trivial
theorem bWh{m n:Int}{r:Dl20Rd}(R:Rdr m r)(hm:m<=999000):Ex (rV r n) (λv=>Rdr (m+6) v.1):=by unfold rV;refine Ex.bind (aV R (by omega) (by omega)) λv1 ⟨R1,a1,b1⟩=>?_;refine Ex.bind (aV R1 (by omega) (by omega)) λv2 ⟨R2,a2,b2⟩=>?_;refine Ex.bind (aV R2 (by omega) (by omega)) λv3 ⟨R3,a3,b3⟩=>?_;refine Ex.join (P:=λs:Int×List Int×Int×Int×Int=>Rdr (m+6) ⟨s.2.1,s.2.2.1⟩) ?_ λs hs=>Ex.ret hs;refine Ex.bind (bDq R3 (by omega)) λv5 R5=>?_;refine Ex.cond (λ_=>?_) λ_=>Ex.ret ⟨_,rfl,R5.up (by omega)⟩;refine Ex.bind (aV R5 (by omega) (by omega)) λv6 ⟨R6,a6,b6⟩=>?_;refine Ex.cond (λ_=>?_) λ_=>?_;{exact Ex.bind (aV R6 (by omega) (by omega)) λv7 ⟨R7,_,_⟩=>Ex.ret ⟨_,rfl,R7.up (by omega)⟩};{refine Ex.cond (λ_=>?_) λ_=>?_;{exact Ex.ret ⟨_,rfl,R6.up (by omega)⟩};{exact Ex.bind (aV R6 (by omega) (by omega)) λv7 ⟨R7,_,_⟩=>Ex.ret ⟨_,rfl,R7.up (by omega)⟩}}
theorem bKe{m:Int}{L:Nat}(hL:L<=64)(hm:m<=900000)(h0:0<=m)(s:List Int×Int×List Int×Int)(hs:0<=s.2.2.2/\s.2.2.2<=(L:Int)/\Rdr (m+12*s.2.2.2) ⟨s.1,s.2.1⟩/\s.2.2.1.length=L):
 Ex (rK s) (λo=>(∃s',o= .next s'/\(0<=s'.2.2.2/\s'.2.2.2<=(L:Int)/\Rdr (m+12*s'.2.2.2) ⟨s'.1,s'.2.1⟩/\s'.2.2.1.length=L)/\L-s'.2.2.2.toNat<L-s.2.2.2.toNat)\/∃t,o= .ret (.go t)/\(Rdr (m+768) ⟨t.2.1,t.2.2⟩/\t.1.length=L)):=by
 obtain⟨b,p,mem,k⟩:=s;obtain⟨k0,k1,R,hl⟩:=hs;simp only at k0 k1 R hl;unfold rK;refine Ex.cond (λhk=>?_) λhk=>?_
 · have hk:k<(mem.length:Int):=of_decide_eq_true hk
   refine Ex.join (P:=λs4:List Int×Int×List Int=>Rdr (m+12*k+12) ⟨s4.1,s4.2.1⟩/\s4.2.2.length=L) ?_ λs4 ⟨R4,hl4⟩=>?_;{refine Ex.join (P:=λ_:Bool=>True) (Ex.cond (λ_=>Ex.ret ⟨_,rfl,trivial⟩) λ_=>Ex.ret ⟨_,rfl,trivial⟩) λs5 _=>?_;unfold xW;refine Ex.cond (λ_=>?_) λ_=>?_;{refine Ex.bind (aV R (by omega) (by omega)) λv6 ⟨R6,a6,b6⟩=>?_;refine Ex.cond (λ_=>?_) λ_=>Ex.ret ⟨_,rfl,R6.up (by omega),hl⟩;refine Ex.bind (aV R6 (by omega) (by omega)) λv7 ⟨R7,a7,b7⟩=>?_;refine Ex.bind (aV R7 (by omega) (by omega)) λv8 ⟨R8,a8,b8⟩=>?_;refine Ex.bind (aV R8 (by omega) (by omega)) λv9 ⟨R9,a9,b9⟩=>?_;refine Ex.bind (aLj _) λv10 _=>?_;exact Ex.grd ⟨k0,hk⟩ (Ex.ret ⟨_,rfl,R9.up (by omega),by simp only[lS];exact hl⟩)};{refine Ex.bind (bWh R (by omega)) λv11 R11=>?_;refine Ex.join (P:=λs12:List Int×Int×Int=>Rdr (m+12*k+8) ⟨s12.1,s12.2.1⟩) ?_ λs12 R12=>?_;{refine Ex.bind (aV R11 (by omega) (by omega)) λv16 ⟨R16,a16,b16⟩=>?_;refine Ex.cond (λ_=>?_) λ_=>Ex.ret ⟨_,rfl,R16.up (by omega)⟩;refine Ex.bind (aV R16 (by omega) (by omega)) λv17 ⟨R17,a17,b17⟩=>?_;exact Ex.grd ⟨a17,b17⟩ (Ex.ret ⟨_,rfl,R17.up (by omega)⟩)};{unfold wI;refine Ex.join (P:=λs13:List Int×Int×Int=>Rdr (m+12*k+9) ⟨s13.1,s13.2.1⟩) ?_ λs13 R13=>?_;{refine Ex.cond (λ_=>?_) λ_=>Ex.ret ⟨_,rfl,R12.up (by omega)⟩;refine Ex.bind (aV R12 (by omega) (by omega)) λv15 ⟨R15,a15,b15⟩=>?_;exact Ex.cond (λ_=>Ex.ret ⟨_,rfl,R15.up (by omega)⟩) λ_=>Ex.ret ⟨_,rfl,R15.up (by omega)⟩};{unfold vZ;refine Ex.bind (bJn _) λv14 _=>?_;exact Ex.grd ⟨k0,hk⟩ (Ex.ret ⟨_,rfl,R13.up (by omega),by simp only[lS];exact hl⟩)}}}}
   · unfold xS
     refine Ex.ret (.inl ⟨_,rfl,⟨?_,?_,?_,?_⟩,?_⟩);all_goals simp only[aF (z:=k+1) (by omega) (by omega)]
     {omega};{omega};{exact R4.up (by omega)};{exact hl4};{omega}
 {have hk:¬k<(mem.length:Int):=of_decide_eq_false hk;exact Ex.ret (.inr ⟨_,rfl,R.up (by omega),hl⟩)}
theorem bRg{m:Int}{r:Dl20Rd}(R:Rdr m r)(h0:0<=m)(hm:m<=800000):Ex (pV r) (λv=>Rdr (m+1400) v.1/\v.2.length=64):=by unfold pV;refine Ex.bind (bOo R h0 (by omega)) λv1 ⟨R1,hl,hl0⟩=>?_;have hl0:=hl0 (by omega);refine Ex.join (Ex.loopv (λs:List Int×Int×List Int×Int=>0<=s.2.2.2/\s.2.2.2<=(v1.2.length:Int)/\Rdr (m+600+12*s.2.2.2) ⟨s.1,s.2.1⟩/\s.2.2.1.length=v1.2.length) (λs=>v1.2.length-s.2.2.2.toNat) (λt=>Rdr (m+600+768) ⟨t.2.1,t.2.2⟩/\t.1.length=v1.2.length) ⟨by simp,by simp,R1.up (by simp),rfl⟩ (bKe hl (by omega) (by omega))) λs2 ⟨R2,h2⟩=>?_;unfold yG;exact Ex.ret ⟨R2.up (by omega),by show s2.1.length=64;omega⟩
theorem bEh{m:Int}(hm:m<=900000)(h0:0<=m)(s:List Int×Int×List Int×Int)(hs:0<=s.2.2.2/\s.2.2.2<=3/\Rdr (m+2*(3-s.2.2.2)) ⟨s.1,s.2.1⟩/\(s.2.2.1.length:Int)+s.2.2.2<=3):
 Ex (lR s) (λo=>(∃s',o= .next s'/\(0<=s'.2.2.2/\s'.2.2.2<=3/\Rdr (m+2*(3-s'.2.2.2)) ⟨s'.1,s'.2.1⟩/\(s'.2.2.1.length:Int)+s'.2.2.2<=3)/\s'.2.2.2.toNat<s.2.2.2.toNat)\/∃t,o= .ret (.go t)/\(Rdr (m+6) ⟨t.1,t.2.1⟩/\t.2.2.length<=3)):=by
 obtain⟨b,p,l,k⟩:=s;obtain⟨k0,k1,R,hl⟩:=hs;simp only at k0 k1 R hl;unfold lR;refine Ex.cond (λhk=>?_) λhk=>?_
 · have hk:0<k:=of_decide_eq_true hk
   refine Ex.bind (aQi R (by omega)) λv ⟨R1,a1,b1⟩=>?_;refine Ex.grd ⟨by simp only[List.length_cons,List.length_nil];omega,by simp only[List.length_cons,List.length_nil];omega⟩ (Ex.ret (.inl ⟨_,rfl,⟨?_,?_,?_,?_⟩,?_⟩));all_goals simp only[aF (z:=k-1) (by omega) (by omega),List.length_append,List.length_cons,List.length_nil]
   {omega};{omega};{exact R1.up (by omega)};{omega};{omega}
 {have hk:¬0<k:=of_decide_eq_false hk;exact Ex.ret (.inr ⟨_,rfl,R.up (by omega),by show l.length<=3;omega⟩)}
theorem bBv{m k:Int}{r:Dl20Rd}(R:Rdr m r)(h0:0<=m)(hm:m<=900000)(k0:0<=k)(k1:k<=3):Ex (Option.bind (iter lR (r.b,r.p,[],k)) LO.val) (λj=>∃t,j= .go t/\(Rdr (m+6) ⟨t.1,t.2.1⟩/\t.2.2.length<=3)):=Ex.loopv (λs:List Int×Int×List Int×Int=>0<=s.2.2.2/\s.2.2.2<=3/\Rdr (m+2*(3-s.2.2.2)) ⟨s.1,s.2.1⟩/\(s.2.2.1.length:Int)+s.2.2.2<=3) (λs=>s.2.2.2.toNat) (λt:List Int×Int×List Int=>Rdr (m+6) ⟨t.1,t.2.1⟩/\t.2.2.length<=3) ⟨k0,k1,R.up (by simp only;omega),by simp only[List.length_nil];omega⟩ (bEh hm h0)
theorem bOl{m k:Int}{r:Dl20Rd}(R:Rdr m r)(h0:0<=m)(hm:m<=900000)(k0:0<=k)(k1:k<=3):Ex (Option.bind (iter wP (r.b,r.p,[],k)) LO.val) (λj=>∃t,j= .go t/\(Rdr (m+6) ⟨t.1,t.2.1⟩/\t.2.2.length<=3)):=bBv R h0 hm k0 k1
structure Tiny (b : DBare) : Prop where
 regs:b.C.Regs.length<=4
 mem:b.Mem.length<=64
 i:b.In.length<=31
 o:b.Out.length<=31
theorem Tiny.small{b:DBare}(h:Tiny b):SmallB b:=⟨⟨by have:=h.regs;omega⟩,by have:=h.mem;omega,by have:=h.i;omega,by have:=h.o;omega⟩
theorem bTw{m n:Int}{r:Dl20Rd}(R:Rdr m r)(h0:0<=m)(hm:m<=700000):Ex (qL r n) (λv=>Rdr (m+3000) v.1/\Tiny v.2/\(n<=0->v.2.Mem.length=64)):=by unfold qL;refine Ex.bind (bGr R h0 (by omega)) λv1 ⟨R1,c1⟩=>?_;refine Ex.bind (bRg R1 (by omega) (by omega)) λv2 ⟨R2,c2⟩=>?_;refine Ex.join (Ex.bind (aV R2 (by omega) (by omega)) λv13 ⟨R13,a13,b13⟩=>bBv R13 (by omega) (by omega) a13 (by omega)) λs3 ⟨R3,c3⟩=>?_;unfold yA;refine Ex.join (Ex.bind (aV R3 (by omega) (by omega)) λv10 ⟨R10,a10,b10⟩=>bOl R10 (by omega) (by omega) a10 (by omega)) λs4 ⟨R4,c4⟩=>?_;unfold xU;refine Ex.join (P:=λs5:List Int×Int×Int×Int×Int×Bool×Int×Int×Int×Bool×Bool×Bool×Bool×List Int×Int×List Int×List Int=>Rdr (m+3000) ⟨s5.2.2.2.2.2.2.2.2.2.2.2.2.2.1,s5.2.2.2.2.2.2.2.2.2.2.2.2.2.2.1⟩/\s5.1.length<=4/\s5.2.2.2.2.2.2.2.2.2.2.2.2.2.2.2.1.length<=64/\s5.2.2.2.2.2.2.2.2.2.2.2.2.2.2.2.2.length<=31/\(n<=0->s5.2.2.2.2.2.2.2.2.2.2.2.2.2.2.2.1.length=64)) ?_ λs5 ⟨h5,g1,g2,g3,g4⟩=>Ex.ret ⟨h5,⟨g1,g2,g3,by show s4.2.2.length<=31;omega⟩,g4⟩;have c2':v2.2.length<=64:=(by omega);refine Ex.bind (bHk R4 (by omega)) λv6 ⟨R6,o6⟩=>?_;refine Ex.cond (λhv=>?_) λ_=>Ex.ret ⟨_,rfl,R6.up (by omega),c1,c2',by simp only;omega,λ_=>c2⟩;refine Ex.bind (aV R6 (by omega) (by omega)) λv7 ⟨R7,a7,b7⟩=>?_;refine Ex.cond (λ_=>?_) λ_=>?_;{exact Ex.bind (bGr R7 (by omega) (by omega)) λv8 ⟨R8,c8⟩=>Ex.ret ⟨_,rfl,R8.up (by omega),c8,c2',by simp only;omega,λhn=>by rw[o6 hn]at hv;cases hv⟩};{refine Ex.cond (λ_=>?_) λ_=>?_;{exact Ex.bind (bOo R7 (by omega) (by omega)) λv8 ⟨R8,c8,_⟩=>Ex.ret ⟨_,rfl,R8.up (by omega),c1,c8,by simp only;omega,λhn=>by rw[o6 hn]at hv;cases hv⟩};{exact Ex.ret ⟨_,rfl,R7.up (by omega),c1,c2',by simp,λhn=>by rw[o6 hn]at hv;cases hv⟩}}
structure LG (g : DGuest) : Prop where
 small:SmallG g
 pages:g.Live=true->g.Pages.length=8
structure LH (gs : List DGuest) : Prop where
 three:gs.length=3
 all:∀g∈gs,LG g
theorem LH.set{gs:List DGuest}{i:Nat}{x:DGuest}(h:LH gs)(hx:LG x):LH (gs.set i x):=by refine⟨by rw[lS];exact h.three,λg hg=>?_⟩;rcases List.mem_or_eq_of_mem_set hg with hg|rfl;{exact h.all g hg};{exact hx}
theorem LH.get{gs:List DGuest}(h:LH gs){i:Nat}(hi:i<3):LG (gs.getD i default):=h.all _ (cX (by rw[h.three];exact hi))
theorem LH.host{gs:List DGuest}{ws:List Int}(h:LH gs)(hw:ws.length=160):SmallH ⟨ws,gs⟩:=⟨by simp only[hw];omega,by simp only[h.three];omega,λg hg=>(h.all g hg).small⟩
theorem bPg{h:DHost}{b:DBare}(hb:(M.hostBoot h b).2.2=true)(hs:SmallB b)(hl:LH h.Guests):(M.hostBoot h b).1.Words.length=160/\LH (M.hostBoot h b).1.Guests:=by unfold M.hostBoot at hb ⊢;(cases hc:(M.hostOk h&&M.bareOk b&&(!decide (M.gone h.Guests=-1)&&decide (M.used b.Mem 8<=(M.free (M.slots h.Guests)).length)))with|false=>rw[hc]at hb;cases hb|true=>simp only[bA,decide_eq_true_eq]at hc;have hk:=eY.1 hc.1.1;simp only[cTq,M.booted];exact⟨zW hk.len (by omega) hc.2.2,hl.set ⟨⟨hs.c,by simp[M.slotsFor],hs.i,hs.o⟩,λ_=>by simp[M.slotsFor]⟩⟩)
abbrev S18:=List Int×Int×List Int×List DGuest×List Int×Int×Int×Int×Int×Bool×Int×Int×Int×Bool×Bool×Bool×Bool×List Int×List Int×List Int×Int
abbrev S19:=List Int×Int×List Int×List DGuest×List Int×Int×Int×Int×Int×Bool×Int×Int×Int×Bool×Bool×Bool×Bool×List Int×List Int×List Int
theorem bJm{m:Int}(hm:m<=900000)(h0:0<=m)(s:List Int×Int×List Int×Int)(hs:0<=s.2.2.2/\s.2.2.2<=160/\Rdr (m+3*s.2.2.2) ⟨s.1,s.2.1⟩/\s.2.2.1.length=160):
 Ex (pL s) (λo=>(∃s',o= .next s'/\(0<=s'.2.2.2/\s'.2.2.2<=160/\Rdr (m+3*s'.2.2.2) ⟨s'.1,s'.2.1⟩/\s'.2.2.1.length=160)/\160-s'.2.2.2.toNat<160-s.2.2.2.toNat)\/∃t,o= .ret (.go t)/\(Rdr (m+480) ⟨t.1,t.2.1⟩/\t.2.2.length=160)):=by
 obtain⟨b,p,ws,k⟩:=s;obtain⟨k0,k1,R,hl⟩:=hs;simp only at k0 k1 R hl;unfold pL;refine Ex.cond (λhk=>?_) λhk=>?_
 · have hk:k<(ws.length:Int):=of_decide_eq_true hk
   refine Ex.join (P:=λs:List Int×Int×List Int=>Rdr (m+3*k+3) ⟨s.1,s.2.1⟩/\s.2.2.length=160) ?_ λs ⟨R1,h1⟩=>?_;{refine Ex.bind (aV R (by omega) (by omega)) λv ⟨R1,_,_⟩=>?_;refine Ex.cond (λ_=>?_) λ_=>Ex.ret ⟨_,rfl,R1.up (by omega),hl⟩;refine Ex.bind (aQi R1 (by omega)) λv ⟨R2,_,_⟩=>?_;exact Ex.grd ⟨k0,hk⟩ (Ex.ret ⟨_,rfl,R2.up (by omega),by simp only[lS];exact hl⟩)}
   · unfold wN
     refine Ex.ret (.inl ⟨_,rfl,⟨?_,?_,?_,?_⟩,?_⟩);all_goals simp only[aF (z:=k+1) (by omega) (by omega)]
     {omega};{omega};{exact R1.up (by omega)};{exact h1};{omega}
 {have hk:¬k<(ws.length:Int):=of_decide_eq_false hk;exact Ex.ret (.inr ⟨_,rfl,R.up (by omega),hl⟩)}
theorem bNl{m:Int}{s18:S18}(hm:m<=900000)(h0:0<=m)(hsame:s18.2.2.2.2.2.2.2.2.2.2.2.2.2.2.2.2.2.1.length=0\/s18.2.2.2.2.2.2.2.2.2.2.2.2.2.2.2.2.2.1.length=64)(s:List Int×Int×List Int×Int)(hs:0<=s.2.2.2/\s.2.2.2<=8/\Rdr (m+2*s.2.2.2) ⟨s.1,s.2.1⟩/\s.2.2.1.length=64):
 Ex (pD s18 s) (λo=>(∃s',o= .next s'/\(0<=s'.2.2.2/\s'.2.2.2<=8/\Rdr (m+2*s'.2.2.2) ⟨s'.1,s'.2.1⟩/\s'.2.2.1.length=64)/\8-s'.2.2.2.toNat<8-s.2.2.2.toNat)\/∃t,o= .ret (.go t)/\(Rdr (m+16) ⟨t.1,t.2.1⟩/\t.2.2.length=64)):=by
 obtain⟨b,p,mem,k⟩:=s;obtain⟨k0,k1,R,hl⟩:=hs;simp only at k0 k1 R hl;unfold pD;refine Ex.cond (λhk=>?_) λhk=>?_
 · have hk:k<8:=of_decide_eq_true hk
   have e1:w64 (k*8)=k*8:=aF (by omega) (by omega);have e2:w64 ((w64 (k+1))*8)=(k+1)*8:=(by rw[aF (z:=k+1) (by omega) (by omega),aF (by omega) (by omega)]);refine Ex.join (P:=λs:List Int×Int×List Int=>Rdr (m+2*k+2) ⟨s.1,s.2.1⟩/\s.2.2.length=64) ?_ λs ⟨R1,h1⟩=>?_;{refine Ex.join (P:=λs:List Int×Int×List Int=>Rdr (m+2*k+1) ⟨s.1,s.2.1⟩/\s.2.2.length=64) ?_ λs ⟨R1,h1⟩=>?_;{refine Ex.cond (λ_=>?_) λ_=>Ex.ret ⟨_,rfl,R.up (by omega),hl⟩;refine Ex.bind (aV R (by omega) (by omega)) λv ⟨R1,_,_⟩=>?_;refine Ex.cond (λ_=>?_) λ_=>Ex.ret ⟨_,rfl,R1,hl⟩;simp only[e1];exact Ex.grd ⟨by omega,by omega,by omega⟩ (Ex.ret ⟨_,rfl,R1,by simp only[aGi,List.length_replicate];omega⟩)};{unfold wQ;refine Ex.cond (λhz=>?_) λ_=>Ex.ret ⟨_,rfl,R1.up (by omega),h1⟩;have hz:=of_decide_eq_true hz;have h64:=hsame.resolve_left (by omega);refine Ex.bind (aV R1 (by omega) (by omega)) λv ⟨R2,_,_⟩=>?_;refine Ex.cond (λ_=>?_) λ_=>Ex.ret ⟨_,rfl,R2.up (by omega),h1⟩;simp only[e1,e2];exact Ex.grd ⟨by omega,by omega,by omega⟩ (Ex.grd ⟨by omega,by omega,by omega⟩ (Ex.ret ⟨_,rfl,R2.up (by omega),by simp only[aGi,List.length_take,List.length_drop];omega⟩))}}
   · unfold wC
     refine Ex.ret (.inl ⟨_,rfl,⟨?_,?_,?_,?_⟩,?_⟩);all_goals simp only[aF (z:=k+1) (by omega) (by omega)]
     {omega};{omega};{exact R1.up (by omega)};{exact h1};{omega}
 {have hk:¬k<8:=of_decide_eq_false hk;exact Ex.ret (.inr ⟨_,rfl,R.up (by omega),hl⟩)}
theorem bHj{m:Int}(hm:m<=600000)(h0:0<=m)(s:S18)(hs:0<=s.2.2.2.2.2.2.2.2.2.2.2.2.2.2.2.2.2.2.2.2/\s.2.2.2.2.2.2.2.2.2.2.2.2.2.2.2.2.2.2.2.2<=3/\Rdr (m+3100*(3-s.2.2.2.2.2.2.2.2.2.2.2.2.2.2.2.2.2.2.2.2)) ⟨s.1,s.2.1⟩/\s.2.2.1.length=160/\LH s.2.2.2.1/\(s.2.2.2.2.2.2.2.2.2.2.2.2.2.2.2.2.2.1.length=0\/s.2.2.2.2.2.2.2.2.2.2.2.2.2.2.2.2.2.1.length=64)):
 Ex (pM s) (λo=>(∃s',o= .next s'/\(0<=s'.2.2.2.2.2.2.2.2.2.2.2.2.2.2.2.2.2.2.2.2/\s'.2.2.2.2.2.2.2.2.2.2.2.2.2.2.2.2.2.2.2.2<=3/\Rdr (m+3100*(3-s'.2.2.2.2.2.2.2.2.2.2.2.2.2.2.2.2.2.2.2.2)) ⟨s'.1,s'.2.1⟩/\s'.2.2.1.length=160/\LH s'.2.2.2.1/\(s'.2.2.2.2.2.2.2.2.2.2.2.2.2.2.2.2.2.1.length=0\/s'.2.2.2.2.2.2.2.2.2.2.2.2.2.2.2.2.2.1.length=64))/\s'.2.2.2.2.2.2.2.2.2.2.2.2.2.2.2.2.2.2.2.2.toNat<s.2.2.2.2.2.2.2.2.2.2.2.2.2.2.2.2.2.2.2.2.toNat)\/∃t,o= .ret (.go t)/\(Rdr (m+9300) ⟨t.1,t.2.1⟩/\t.2.2.1.length=160/\LH t.2.2.2)):=by
 obtain⟨b,p,ws,gs,a5,a6,a7,a8,a9,a10,a11,a12,a13,a14,a15,a16,a17,mem,a19,a20,k⟩:=s;obtain⟨k0,k1,R,hw,hg,hmem⟩:=hs;simp only at k0 k1 R hw hg hmem;unfold pM;refine Ex.cond (λhk=>?_) λhk=>?_
 · have hk:0<k:=of_decide_eq_true hk
   refine Ex.join (P:=λs:S19=>Rdr (m+3100*(3-k)+3100) ⟨s.1,s.2.1⟩/\s.2.2.1.length=160/\LH s.2.2.2.1/\s.2.2.2.2.2.2.2.2.2.2.2.2.2.2.2.2.2.1.length=64) ?_ λs ⟨R1,h1,h2,h3⟩=>?_;{refine Ex.bind (bTw R (by omega) (by omega)) λv ⟨R2,t2,l2⟩=>?_;have l2:=l2 (by omega);refine Ex.join (Ex.loopv (λs:List Int×Int×List Int×Int=>0<=s.2.2.2/\s.2.2.2<=8/\Rdr (m+3100*(3-k)+3000+2*s.2.2.2) ⟨s.1,s.2.1⟩/\s.2.2.1.length=64) (λs=>8-s.2.2.2.toNat) (λt:List Int×Int×List Int=>Rdr (m+3100*(3-k)+3000+16) ⟨t.1,t.2.1⟩/\t.2.2.length=64) ⟨by simp,by simp,R2.up (by simp),l2⟩ (bNl (by omega) (by omega) hmem)) λs ⟨R3,h3⟩=>?_;unfold wG;have hsb:SmallB (DBare.mk v.2.C s.2.2 v.2.In v.2.Out):=⟨t2.small.c,by simp only[h3];omega,t2.small.i,t2.small.o⟩;rw[bGa (hg.host hw) hsb,oB];refine Ex.cond (λhb=>?_) λ_=>Ex.ret ⟨_,rfl,R3.up (by omega),hw,hg,h3⟩;obtain⟨q1,q2⟩:=bPg hb hsb hg;exact Ex.ret ⟨_,rfl,R3.up (by omega),q1,q2,h3⟩}
   · unfold wE
     refine Ex.ret (.inl ⟨_,rfl,⟨?_,?_,?_,h1,h2,.inr h3⟩,?_⟩);all_goals simp only[aF (z:=k-1) (by omega) (by omega)]
     {omega};{omega};{exact R1.up (by omega)};{omega}
 {have hk:¬0<k:=of_decide_eq_false hk;exact Ex.ret (.inr ⟨_,rfl,R.up (by omega),hw,hg⟩)}
theorem bFf{m:Int}(hm:m<=900000)(h0:0<=m)(s:List Int×Int×List DGuest×Int)(hs:0<=s.2.2.2/\s.2.2.2<=3/\Rdr (m+5*(3-s.2.2.2)) ⟨s.1,s.2.1⟩/\LH s.2.2.1):
 Ex (pS s) (λo=>(∃s',o= .next s'/\(0<=s'.2.2.2/\s'.2.2.2<=3/\Rdr (m+5*(3-s'.2.2.2)) ⟨s'.1,s'.2.1⟩/\LH s'.2.2.1)/\s'.2.2.2.toNat<s.2.2.2.toNat)\/∃t,o= .ret (.go t)/\(Rdr (m+15) ⟨t.1,t.2.1⟩/\LH t.2.2)):=by
 obtain⟨b,p,gs,k⟩:=s;obtain⟨k0,k1,R,hg⟩:=hs;simp only at k0 k1 R hg;have h3:=hg.three;unfold pS;refine Ex.cond (λhk=>?_) λhk=>?_
 · have hk:0<k:=of_decide_eq_true hk
   refine Ex.join (P:=λs:List Int×Int×List DGuest=>Rdr (m+5*(3-k)+5) ⟨s.1,s.2.1⟩/\LH s.2.2) ?_ λs ⟨R1,h1⟩=>?_
   · refine Ex.bind (aV R (by omega) (by omega)) λv12 ⟨R12,a12,b12⟩=>?_
     refine Ex.bind (aV R12 (by omega) (by omega)) λv13 ⟨R13,a13,b13⟩=>?_;refine Ex.bind (aV R13 (by omega) (by omega)) λv14 ⟨R14,a14,b14⟩=>?_;have lA:=hg.get (i:=v12.2.toNat) (by omega);have lB:=hg.get (i:=v13.2.toNat) (by omega);have gA:(0:Int)<=v12.2/\v12.2<((gs.length:Nat):Int):=⟨a12,by omega⟩;have gB:(0:Int)<=v13.2/\v13.2<((gs.length:Nat):Int):=⟨a13,by omega⟩;refine Ex.grd gA (Ex.cond (λhA=>?_) λ_=>Ex.ret ⟨_,rfl,R14.up (by omega),hg⟩);refine Ex.grd gB (Ex.cond (λhB=>?_) λ_=>Ex.ret ⟨_,rfl,R14.up (by omega),hg⟩);have pA:=lA.pages hA;have pB:=lB.pages hB;have gP:(0:Int)<=v14.2/\v14.2<(((gs.getD v12.2.toNat default).Pages.length:Nat):Int):=⟨a14,by omega⟩;refine Ex.grd gA (Ex.grd gP (Ex.cond (λ_=>?_) λ_=>Ex.ret ⟨_,rfl,R14.up (by omega),hg⟩));refine Ex.grd gA (Ex.grd gP (Ex.grd gB (Ex.bind (aV R14 (by omega) (by omega)) λv15 ⟨R15,a15,b15⟩=>?_)));generalize hx:(DGuest.mk (gs.getD v12.2.toNat default).Live (gs.getD v12.2.toNat default).C ((gs.getD v12.2.toNat default).Pages.set v14.2.toNat (DSlot.mk ((gs.getD v12.2.toNat default).Pages.getD v14.2.toNat default).Frame false ((gs.getD v12.2.toNat default).Pages.getD v14.2.toNat default).Dirty)) (gs.getD v12.2.toNat default).In (gs.getD v12.2.toNat default).Out)=x;have lx:LG x:=(by subst hx;exact⟨⟨⟨lA.small.c.regs⟩,by simpa only[lS]using lA.small.pages,lA.small.i,lA.small.o⟩,λ_=>by simpa only[lS]using pA⟩);have xl:x.Live=true:=(by subst hx;exact hA);have xp:x.Pages.length=(gs.getD v12.2.toNat default).Pages.length:=(by subst hx;exact lS);have gP2:(0:Int)<=v14.2/\v14.2<((((gs.set v12.2.toNat x).getD v12.2.toNat default).Pages.length:Nat):Int):=(by rw[bL (by rw[lS];omega),List.getElem_set_self,xp];exact gP);refine Ex.grd gA (Ex.grd gP2 (Ex.bind (aV R15 (by omega) (by omega)) λv16 ⟨R16,a16,b16⟩=>?_));have hg2:=hg.set (i:=v12.2.toNat) lx;have lB2:=hg2.get (i:=v13.2.toNat) (by omega)
     have hB2:((gs.set v12.2.toNat x).getD v13.2.toNat default).Live=true:=by
      by_cases e:v12.2.toNat=v13.2.toNat
      {rw[e];rw[bL (by rw[lS];omega),List.getElem_set_self];exact xl};{rw[bL (by rw[lS];omega),List.getElem_set_ne e,<-bL];exact hB}
     have pB2:=lB2.pages hB2;have gQ:(0:Int)<=v15.2/\v15.2<((((gs.set v12.2.toNat x).getD v13.2.toNat default).Pages.length:Nat):Int):=⟨a15,by omega⟩;refine Ex.grd gQ (Ex.ret ⟨_,rfl,R16.up (by omega),?_⟩);exact hg2.set ⟨⟨⟨lB2.small.c.regs⟩,by simpa only[lS]using lB2.small.pages,lB2.small.i,lB2.small.o⟩,λ_=>by simpa only[lS]using pB2⟩
   · unfold wA
     refine Ex.ret (.inl ⟨_,rfl,⟨?_,?_,?_,h1⟩,?_⟩);all_goals simp only[aF (z:=k-1) (by omega) (by omega)]
     {omega};{omega};{exact R1.up (by omega)};{omega}
 {have hk:¬0<k:=of_decide_eq_false hk;exact Ex.ret (.inr ⟨_,rfl,R.up (by omega),hg⟩)}
theorem bUw{m n:Int}{r:Dl20Rd}(R:Rdr m r)(h0:0<=m)(hm:m<=500000):Ex (pU r n) (λv=>Rdr (m+12000) v.1/\SmallH v.2):=by unfold pU;refine Ex.bind (P:=λv:DHost=>v.Words.length=160/\LH v.Guests) ⟨_,rfl,by simp,by simp,λg hg=>?_⟩ λv1 ⟨w1,g1⟩=>?_;{have:=List.eq_of_mem_replicate (show g∈List.replicate 3 M.noGuest from hg);rw[this];exact⟨⟨⟨by decide⟩,by decide,by decide,by decide⟩,λh=>by cases h⟩};refine Ex.join (Ex.loopv (λs:List Int×Int×List Int×Int=>0<=s.2.2.2/\s.2.2.2<=160/\Rdr (m+3*s.2.2.2) ⟨s.1,s.2.1⟩/\s.2.2.1.length=160) (λs=>160-s.2.2.2.toNat) (λt:List Int×Int×List Int=>Rdr (m+480) ⟨t.1,t.2.1⟩/\t.2.2.length=160) ⟨by simp,by simp,R.up (by simp),w1⟩ (bJm (by omega) h0)) λs2 ⟨R2,w2⟩=>?_;unfold yC;refine Ex.join (Ex.bind (aV R2 (by omega) (by omega)) λv17 ⟨R17,a17,b17⟩=>Ex.loopv (λs:S18=>0<=s.2.2.2.2.2.2.2.2.2.2.2.2.2.2.2.2.2.2.2.2/\s.2.2.2.2.2.2.2.2.2.2.2.2.2.2.2.2.2.2.2.2<=3/\Rdr (m+481+3100*(3-s.2.2.2.2.2.2.2.2.2.2.2.2.2.2.2.2.2.2.2.2)) ⟨s.1,s.2.1⟩/\s.2.2.1.length=160/\LH s.2.2.2.1/\(s.2.2.2.2.2.2.2.2.2.2.2.2.2.2.2.2.2.1.length=0\/s.2.2.2.2.2.2.2.2.2.2.2.2.2.2.2.2.2.1.length=64)) (λs=>s.2.2.2.2.2.2.2.2.2.2.2.2.2.2.2.2.2.2.2.2.toNat) (λt:List Int×Int×List Int×List DGuest=>Rdr (m+481+9300) ⟨t.1,t.2.1⟩/\t.2.2.1.length=160/\LH t.2.2.2) (by simp only[aF (z:=1+v17.2) (by omega) (by omega)];exact⟨by omega,by omega,R17.up (by omega),w2,g1,.inl rfl⟩) (bHj (by omega) (by omega))) λs3 ⟨R3,w3,g3⟩=>?_;unfold xZ;refine Ex.join (Ex.bind (aV R3 (by omega) (by omega)) λv9 ⟨R9,a9,b9⟩=>Ex.loopv (λs:List Int×Int×List DGuest×Int=>0<=s.2.2.2/\s.2.2.2<=3/\Rdr (m+481+9300+1+5*(3-s.2.2.2)) ⟨s.1,s.2.1⟩/\LH s.2.2.1) (λs=>s.2.2.2.toNat) (λt:List Int×Int×List DGuest=>Rdr (m+481+9300+1+15) ⟨t.1,t.2.1⟩/\LH t.2.2) ⟨a9,by simp only;omega,R9.up (by simp only;omega),g3⟩ (bFf (by omega) (by omega))) λs4 ⟨R4,g4⟩=>?_;have t4:=g4.three;unfold yE;refine Ex.join (P:=λs:List Int×List Int×Int×List DGuest=>Rdr (m+12000) ⟨s.2.1,s.2.2.1⟩/\SmallH ⟨s.1,s.2.2.2⟩) ?_ λs5 h5=>Ex.ret h5;refine Ex.bind (bDq R4 (by omega)) λv6 R6=>?_;refine Ex.cond (λ_=>?_) λ_=>Ex.ret ⟨_,rfl,R6.up (by omega),g4.host w3⟩;refine Ex.bind (aV R6 (by omega) (by omega)) λv7 ⟨R7,a7,b7⟩=>?_;refine Ex.cond (λ_=>?_) λ_=>?_;{refine Ex.bind (aV R7 (by omega) (by omega)) λv8 ⟨R8,a8,b8⟩=>?_;exact Ex.grd ⟨a8,by omega⟩ (Ex.ret ⟨_,rfl,R8.up (by omega),g4.host (by simpa only[lS]using w3)⟩)};{refine Ex.cond (λ_=>?_) λ_=>?_;{refine Ex.grd ⟨by omega,by omega,by omega⟩ (Ex.ret ⟨_,rfl,R7.up (by omega),⟨by simp only[w3];omega,by simp only[List.length_take];omega,λg hg=>?_⟩⟩);exact(g4.all g (List.mem_of_mem_take hg)).small};{refine Ex.cond (λ_=>?_) λ_=>?_;{exact Ex.grd ⟨by omega,by omega⟩ (Ex.ret ⟨_,rfl,R7.up (by omega),(g4.set ⟨⟨⟨by simp⟩,by simp,by simp,by simp⟩,λh=>by cases h⟩).host w3⟩)};{have l0:=g4.get (i:=0) (by omega);refine Ex.grd ⟨by omega,by omega⟩ (Ex.ret ⟨_,rfl,R7.up (by omega),⟨by simp only[w3];omega,by simp only[lS];omega,λg hg=>?_⟩⟩);rcases List.mem_or_eq_of_mem_set hg with hg|rfl;{exact(g4.all g hg).small};{exact⟨⟨l0.small.c.regs⟩,by simp,l0.small.i,l0.small.o⟩}}}}
theorem bAd{h:DHost}{xs:List DLine}{g a:Int}{u w:Bool}:(M.tagWalk h xs g a u w).1.length<=6:=by unfold M.tagWalk;(cases ht:M.tagsOk h xs with|false=>exact Nat.zero_le _|true=>have hl:=(vX ht).2.1;(cases M.there h g&&M.inR 0 63 a with|false=>exact Nat.zero_le _|true=>rw[Bool.and_self,cTq];show(bif _ then M.withLine xs _ else xs).length<=6;(cases decide (M.lineFor xs g (a/8)=-1)with|false=>exact hl|true=>rw[cTq];unfold M.withLine;by_cases e:xs.length=6;{rw[dT e,cTq];simp;omega};{rw[dF e,cFq];simp;omega})))
theorem bAb{h:DHost}{xs:List DLine}{g a:Int}(ht:M.tagsOk h xs=true)(hg:M.there h g=true)(ha:0<=a/\a<=7)(hn:M.lineFor xs g a=-1){t:DLine}(e1:t.Tag=g)(e2:t.At=a)(e3:t.What=M.shade h.Words (h.Guests.getD g.toNat default) a.toNat):
 M.tagsOk h (M.withLine xs t)=true/\M.lineFor (M.withLine xs t) g a≠-1:=by
 obtain⟨H,hl,hall⟩:=vX ht;have hz:=uC (xs:=xs) (g:=g) (a:=a);rw[dT hn]at hz;have hz:=List.all_eq_true.1 hz.symm;have hno:∀i,i<xs.length->M.hit (xs.getD i default) g a=false:=λi hi=>by have:=hz i (List.mem_range.2 hi);simpa using this
 obtain⟨d,hd,hy⟩:∃d,xs.length-d<=5/\M.withLine xs t=xs.drop d++[t]:=(by unfold M.withLine;by_cases e:xs.length=6;{exact⟨1,by omega,by rw[dT e];rfl⟩};{exact⟨0,by omega,by rw[dF e];rfl⟩});have hm:(xs.drop d).length=xs.length-d:=List.length_drop;have g0:∀i,i<xs.length-d->(xs.drop d++[t]).getD i default=xs.getD (d+i) default:=λi hi=>by simp only[List.getD_eq_getElem?_getD];rw[List.getElem?_append_left (by omega),List.getElem?_drop]
 have g1:(xs.drop d++[t]).getD (xs.length-d) default=t:=(by simp only[List.getD_eq_getElem?_getD];rw[List.getElem?_append_right (by omega),hm,Nat.sub_self];rfl);have hle:(xs.drop d++[t]).length=xs.length-d+1:=(by rw[List.length_append,hm];rfl);rw[hy];constructor;{unfold M.tagsOk;rw[eY.2 H,Bool.true_and,dT (by omega),Bool.true_and,List.all_eq_true];intro k hk;rw[List.mem_range,hle]at hk;rw[bA];by_cases e:k<xs.length-d;{rw[g0 k e];obtain⟨h1,h2⟩:=hall (d+k) (by omega);refine⟨h1,?_⟩;unfold M.firstL at h2 ⊢;rw[List.all_eq_true]at h2 ⊢;intro j hj;have hj:=List.mem_range.1 hj;rw[g0 k e,g0 j (by omega)];exact h2 (d+j) (List.mem_range.2 (by omega))};{obtain rfl:k=xs.length-d:=(by omega);rw[g1];refine⟨?_,?_⟩;{unfold M.lineOk;rw[e1,e2,e3,hg,M.inR_iff.2 ha,zX.2 rfl];rfl};{unfold M.firstL;rw[List.all_eq_true];intro j hj;have hj:=List.mem_range.1 hj;rw[g1,g0 j hj,e1,e2,hno _ (by omega)];rfl}}};{intro hc;have hq:=uC (xs:=xs.drop d++[t]) (g:=g) (a:=a);rw[dT hc]at hq;have:=List.all_eq_true.1 hq.symm (xs.length-d) (List.mem_range.2 (by omega));rw[g1,aCq.2 ⟨e1,e2⟩]at this;cases this}
theorem bFv{h:DHost}{xs:List DLine}{g a:Int}{u w:Bool}(ht:M.tagsOk h xs=true)(h0:0<=(M.tagWalk h xs g a u w).2.2):M.tagsOk h (M.tagWalk h xs g a u w).1=true:=by unfold M.tagWalk at h0 ⊢;rw[ht,Bool.true_and]at h0 ⊢;(cases hc:M.there h g&&M.inR 0 63 a with|false=>rw[hc]at h0;exact absurd (show(0:Int)<=-1 from h0) (by decide)|true=>simp only[bA]at hc;obtain⟨a0,a1⟩:=M.inR_iff.1 hc.2;rw[cTq];show M.tagsOk h (bif _ then _ else xs)=true;by_cases en:M.lineFor xs g (a/8)=-1;{rw[dT en,cTq];exact(bAb ht hc.1 (a:=a/8) (by omega) en (t:=⟨g,a/8,M.shadeHG h g a⟩) rfl rfl rfl).1};{rw[dF en,cFq];exact ht})
theorem bWp{m:Int}{r:Dl20Rd}{h:DHost}(R:Rdr m r)(hm:m<=900000):Ex (uH r h) (λv=>Rdr (m+3) v.1):=by unfold uH;refine Ex.bind (aV R (by omega) (by omega)) λv1 ⟨R1,a1,b1⟩=>?_;refine Ex.join (P:=λs:List Int×Int×Int=>Rdr (m+2) ⟨s.1,s.2.1⟩) ?_ λs R2=>?_;{refine Ex.cond (λhc=>?_) λ_=>Ex.ret ⟨_,rfl,R1.up (by omega)⟩;have:=of_decide_eq_true hc;refine Ex.grd ⟨a1,by omega⟩ (Ex.cond (λ_=>?_) λ_=>Ex.ret ⟨_,rfl,R1.up (by omega)⟩);refine Ex.bind (aV R1 (by omega) (by omega)) λv4 ⟨R4,a4,b4⟩=>?_;exact Ex.cond (λ_=>Ex.ret ⟨_,rfl,R4.up (by omega)⟩) λ_=>Ex.ret ⟨_,rfl,R4.up (by omega)⟩};{unfold aBf;exact Ex.bind (aV R2 (by omega) (by omega)) λv3 ⟨R3,a3,b3⟩=>Ex.ret (R3.up (by omega))}
structure FitG (g : DGuest) : Prop where
 c:g.C.Regs.length<=9223372036854775807
 pages:g.Pages.length<=9223372036854775807
 i:g.In.length<=9223372036854775807
 o:g.Out.length<=9223372036854775807
structure FitH (h : DHost) : Prop where
 words:h.Words.length<=9223372036854775807
 guests:h.Guests.length<=9223372036854775807
 all:∀g∈h.Guests,FitG g
noncomputable instance:DecidableEq DShade:=λa b=>Classical.propDecidable (a=b)
noncomputable instance:DecidableEq DLine:=λa b=>Classical.propDecidable (a=b)
namespace M
def tagDrop(xs:List DLine)(g:Int):List DLine:=xs.filter λx=>!decide (x.Tag=g)
end M
theorem bJd{xs:List DLine}{g:Int}{i:Nat}(hi:i<xs.length):M.tagDrop (xs.take (i+1)) g=M.tagDrop (xs.take i) g++(bif !decide ((xs.getD i default).Tag=g)then[xs.getD i default]else[]):=by have e:xs.take (i+1)=xs.take i++[xs.getD i default]:=(by rw[List.take_add_one,bL hi,List.getElem?_eq_getElem hi];rfl);unfold M.tagDrop;rw[e,List.filter_append];refine congrArg _ ?_;simp only[List.filter_cons,List.filter_nil];cases !decide ((xs.getD i default).Tag=g)<;>rfl
theorem aMt{xs:List DLine}{g:Int}:(M.tagDrop xs g).length<=xs.length:=List.length_filter_le _ _
theorem bIx{xs:List DLine}{g:Int}(h:xs.length<=1048576):qQ xs g=some (M.tagDrop xs g):=by
 have key:=jT (n:=xs.length) (step:=jJ xs g) (λi=>(M.tagDrop (xs.take i) g,(i:Int))) (λ_=>true) (.go (M.tagDrop xs g)) (.go []) (λi hi _=>by
  have hl:=aMt (xs:=xs.take i) (g:=g);have h1:(i:Int)<(xs.length:Int):=(by omega);rw[List.length_take]at hl;simp only[jJ,dT h1,cTq];rw[aB ⟨by omega,h1⟩,iT,bJd hi,Int.natCast_add];cases hb:!decide ((xs.getD i default).Tag=g)with
  |false=>simp only[cFq,oB,JO.run,rC,List.append_nil];rw[aF (by omega) (by omega)];rfl
  |true=>simp only[cTq,List.length_cons,List.length_nil];rw[aB ⟨by omega,by omega⟩];simp only[oB,JO.run,rC];rw[aF (by omega) (by omega)];rfl) (λ_=>by
  simp only[jJ];rw[dF (by omega),cFq,List.take_length])
 have e:(List.range xs.length).all (λ_=>true)=true:=(by simp);rw[e]at key;unfold qQ;show Option.bind (Option.bind (iter (jJ xs g) (M.tagDrop (xs.take 0) g,0)) LO.val) _=_;rw[show(0:Int)=((0:Nat):Int)from rfl,key];rfl
namespace M
def lets(e:DEntry)(user write:Bool):Bool:=e.There&&(e.Write||!write)&&(e.User||!user)
def walk(mem:List Int)(root addr:Int)(user write:Bool):Int:=
 bif memOk mem&&inR (-1) 7 root&&inR 0 63 addr then
  bif decide (root=-1)then addr else
   bif lets (dec (mem.getD (root*8+addr/8).toNat default)) user write then(dec (mem.getD (root*8+addr/8).toNat default)).Page*8+addr%8 else-1
 else-1
end M
theorem aLs{xs:List Int}(h:M.memOk xs=true):M.wordsOk xs=true:=(bA _ _▸h).2
theorem bGb(mem:List Int)(root addr:Int)(user write:Bool):M.walk mem root addr user write=-1\/
 (M.memOk mem=true/\(-1<=root/\root<=7)/\(0<=addr/\addr<=63)/\0<=M.walk mem root addr user write/\M.walk mem root addr user write<64/\M.walk mem root addr false false=M.walk mem root addr user write/\M.walk mem root addr user false=M.walk mem root addr user write/\M.walk mem root (addr-addr%8) user write=M.walk mem root addr user write-addr%8):=by
 by_cases hm:M.memOk mem=true
 · by_cases hr:M.inR (-1) 7 root=true
   · by_cases ha:M.inR 0 63 addr=true
     · have hr2:=M.inR_iff.1 hr
       have ha2:=M.inR_iff.1 ha;have hb:M.inR 0 63 (addr-addr%8)=true:=M.inR_iff.2 ⟨by omega,by omega⟩;by_cases h1:root=-1
       · have e:∀u w,M.walk mem root addr u w=addr:=λu w=>by simp only[M.walk,hm,hr,ha,dT h1,Bool.and_self,cTq]
         have e':∀u w,M.walk mem root (addr-addr%8) u w=addr-addr%8:=λu w=>by simp only[M.walk,hm,hr,hb,dT h1,Bool.and_self,cTq]
         rw[e,e,e,e'];exact .inr ⟨hm,hr2,ha2,by omega,by omega,rfl,rfl,rfl⟩
       · have e:∀u w,M.walk mem root addr u w=(bif M.lets (dec (mem.getD (root*8+addr/8).toNat default)) u w then(dec (mem.getD (root*8+addr/8).toNat default)).Page*8+addr%8 else-1):=λu w=>by
          simp only[M.walk,hm,hr,ha,dF h1,Bool.and_self,cTq,cFq]
         have e':∀u w,M.walk mem root (addr-addr%8) u w=(bif M.lets (dec (mem.getD (root*8+addr/8).toNat default)) u w then(dec (mem.getD (root*8+addr/8).toNat default)).Page*8 else-1):=λu w=>by simp only[M.walk,hm,hr,hb,dF h1,Bool.and_self,cTq,cFq];rw[show(addr-addr%8)/8=addr/8 by omega,show(addr-addr%8)%8=0 by omega];simp
         rw[e,e,e,e'];have hp:=aYt (mem.getD (root*8+addr/8).toNat default);generalize dec (mem.getD (root*8+addr/8).toNat default)=x at hp ⊢;(cases hx:M.lets x user write with|false=>exact .inl rfl|true=>have h2:M.lets x false false=true:=(by simp only[M.lets,bA,Bool.or_eq_true,bF,Bool.or_true,and_true]at hx ⊢;exact hx.1.1);have h3:M.lets x user false=true:=(by simp only[M.lets,bA,Bool.or_eq_true,bF,Bool.or_true,and_true]at hx ⊢;exact⟨hx.1.1,hx.2⟩);rw[h2,h3];simp only[cTq];exact .inr ⟨hm,hr2,ha2,by omega,by omega,by first|trivial|rfl,by first|trivial|rfl,by omega⟩)
     {exact .inl (by simp only[M.walk,Bool.eq_false_iff.2 ha,Bool.and_false,cFq])}
   {exact .inl (by simp only[M.walk,Bool.eq_false_iff.2 hr,Bool.and_false,Bool.false_and,cFq])}
 {exact .inl (by simp only[M.walk,Bool.eq_false_iff.2 hm,Bool.false_and,cFq])}
theorem aDm(mem:List Int)(root addr:Int)(user write:Bool)(h:¬M.walk mem root addr user write=-1):0<=M.walk mem root addr user write/\M.walk mem root addr user write<64:=by rcases bGb mem root addr user write with h1|⟨_,_,_,h2,h3,_⟩;{exact absurd h1 h};{exact⟨h2,h3⟩}
namespace M
def reg(c:DCore)(k:Int):Int:=c.Regs.getD k.toNat default
def trap(c:DCore)(src cause bad:Int):DCore:=⟨c.Regs,c.Vector,c.Root,c.Vector,src,c.User,cause,bad,c.Timer,c.Waits,false,false,c.Stopped⟩
def tick(c:DCore):DCore:=bif decide (c.Timer=0)then c else⟨c.Regs,c.Pc,c.Root,c.Vector,c.Saved,c.SavedUser,c.Cause,c.Bad,c.Timer-1,(bif decide (c.Timer-1=0)then true else c.Waits),c.User,c.On,c.Stopped⟩
def ins(w:Int):DIns:=⟨w/256,w/64%4,w%64⟩
def kern(op:Int):Bool:=decide (op=0)||inR 8 14 op
def at_(c:DCore)(pc:Int):DCore:=⟨c.Regs,pc,c.Root,c.Vector,c.Saved,c.SavedUser,c.Cause,c.Bad,c.Timer,c.Waits,c.User,c.On,c.Stopped⟩
def go(c:DCore):DCore:=at_ c ((c.Pc+1)%64)
def put(c:DCore)(a w:Int):DCore:=⟨c.Regs.set a.toNat w,c.Pc,c.Root,c.Vector,c.Saved,c.SavedUser,c.Cause,c.Bad,c.Timer,c.Waits,c.User,c.On,c.Stopped⟩
def with_(b:DBare)(c:DCore):DBare:=⟨c,b.Mem,b.In,b.Out⟩
def root(w:Int):Int:=bif decide (w%16<8)then w%16 else-1
def first(xs:List Int):Int:=xs.getD 0 default
def cin(b:DBare)(k:Int):Int:=bif decide (k=1)then b.C.Cause else bif decide (k=2)then b.C.Bad else bif decide (k=3)then b.C.Saved else first b.In
def rest(xs:List Int)(k:Int):List Int:=bif decide (k=0)then xs.drop 1 else xs
def kdo(b:DBare)(i:DIns):DBare:=
 bif decide (i.Op=0)then with_ b ⟨b.C.Regs,b.C.Pc,b.C.Root,b.C.Vector,b.C.Saved,b.C.SavedUser,b.C.Cause,b.C.Bad,b.C.Timer,b.C.Waits,b.C.User,b.C.On,true⟩
 else bif decide (i.Op=8)then with_ b (go ⟨b.C.Regs,b.C.Pc,root (reg b.C i.A),b.C.Vector,b.C.Saved,b.C.SavedUser,b.C.Cause,b.C.Bad,b.C.Timer,b.C.Waits,b.C.User,b.C.On,b.C.Stopped⟩)
 else bif decide (i.Op=9)then with_ b (go ⟨b.C.Regs,b.C.Pc,b.C.Root,reg b.C i.A%64,b.C.Saved,b.C.SavedUser,b.C.Cause,b.C.Bad,b.C.Timer,b.C.Waits,b.C.User,b.C.On,b.C.Stopped⟩)
 else bif decide (i.Op=10)then with_ b (go ⟨b.C.Regs,b.C.Pc,b.C.Root,b.C.Vector,b.C.Saved,b.C.SavedUser,b.C.Cause,b.C.Bad,reg b.C i.A,b.C.Waits,b.C.User,b.C.On,b.C.Stopped⟩)
 else bif decide (i.Op=11)then with_ b ⟨b.C.Regs,b.C.Saved,b.C.Root,b.C.Vector,b.C.Saved,b.C.SavedUser,b.C.Cause,b.C.Bad,b.C.Timer,b.C.Waits,b.C.SavedUser,true,b.C.Stopped⟩
 else bif decide (i.Op=12)then with_ b (go ⟨b.C.Regs,b.C.Pc,b.C.Root,b.C.Vector,b.C.Saved,b.C.SavedUser,b.C.Cause,b.C.Bad,b.C.Timer,b.C.Waits,b.C.User,decide (i.N%2=1),b.C.Stopped⟩)
 else bif decide (i.Op=13)then⟨go b.C,b.Mem,b.In,bif decide (b.Out.length<30)then b.Out++[reg b.C i.A]else b.Out⟩
 else⟨go (put b.C i.A (cin b (i.N%4))),b.Mem,rest b.In (i.N%4),b.Out⟩
def plain(c:DCore)(i:DIns):DCore:=
 bif decide (i.Op=1)then go (put c i.A i.N)
 else bif decide (i.Op=2)then go (put c i.A ((reg c i.A+reg c (i.N%4))%4096))
 else bif decide (i.Op=15)then go (put c i.A ((reg c i.A-reg c (i.N%4)+4096)%4096))
 else bif decide (i.Op=5)then at_ c i.N
 else bif decide (i.Op=6)then bif decide (reg c i.A=0)then go c else at_ c i.N
 else trap c ((c.Pc+1)%64) 1 0
def mdo(b:DBare)(i:DIns):DBare:=
 bif decide (walk b.Mem b.C.Root (reg b.C (i.N%4)%64) b.C.User (decide (i.Op=4))=-1)then with_ b (trap b.C b.C.Pc 2 (reg b.C (i.N%4)%64))
 else bif decide (i.Op=3)then with_ b (go (put b.C i.A (b.Mem.getD (walk b.Mem b.C.Root (reg b.C (i.N%4)%64) b.C.User false).toNat default)))
 else⟨go b.C,b.Mem.set (walk b.Mem b.C.Root (reg b.C (i.N%4)%64) b.C.User true).toNat (reg b.C i.A),b.In,b.Out⟩
def did(b:DBare)(i:DIns):DBare:=
 bif kern i.Op then bif b.C.User then with_ b (trap b.C b.C.Pc 3 0)else kdo b i
 else bif decide (i.Op=3)||decide (i.Op=4)then mdo b i else with_ b (plain b.C i)
def quiet(c:DCore):DCore:=⟨c.Regs,c.Pc,c.Root,c.Vector,c.Saved,c.SavedUser,c.Cause,c.Bad,c.Timer,false,c.User,c.On,c.Stopped⟩
def step(b:DBare):DBare:=
 bif b.C.Stopped then b
 else bif (tick b.C).Waits&&(tick b.C).On then with_ b (trap (quiet (tick b.C)) (tick b.C).Pc 4 0)
 else bif decide (walk b.Mem (tick b.C).Root (tick b.C).Pc (tick b.C).User false=-1)then with_ b (trap (tick b.C) (tick b.C).Pc 2 (tick b.C).Pc)
 else did (with_ b (tick b.C)) (ins (b.Mem.getD (walk b.Mem (tick b.C).Root (tick b.C).Pc (tick b.C).User false).toNat default))
end M
theorem bPt(x:DIns):uJ x=some (M.insOk x):=by unfold uJ;simp only[M.insOk,M.inR];rw[show(4:Int)=3+1 from rfl,show(64:Int)=63+1 from rfl,aUf,aUf];cases decide (0<=x.Op)<;>cases decide (0<=x.A)<;>cases decide (0<=x.N)<;>cases decide (x.Op<=15)<;>cases decide (x.A<=3)<;>cases decide (x.N<=63)<;>rfl
theorem aAy{k:Int}(h0:0<=k)(h1:k<=15):k=0\/k=1\/k=2\/k=3\/k=4\/k=5\/k=6\/k=7\/k=8\/k=9\/k=10\/k=11\/k=12\/k=13\/k=14\/k=15:=by omega
theorem aLc{x:DIns}(h:M.insOk x=true):kM x=some (M.kern x.Op):=by unfold kM;rw[bPt,h];obtain⟨op,a,n⟩:=x;simp only[M.insOk,bA,M.inR_iff]at h;rcases aAy h.1.1.1 h.1.1.2 with e|e|e|e|e|e|e|e|e|e|e|e|e|e|e|e<;>subst e<;>rfl
theorem aCl{x:DIns}(h:M.insOk x=true):cO x=some (M.kern x.Op):=by unfold cO;rw[aRz,h,nR];simp only[oB,cTq,M.kern];cases decide (x.Op=0)<;>rfl
theorem aSr{w:Int}(h0:0<=w)(h1:w<=4095):kA w=some (M.ins w):=by unfold kA;rw[aEo,show M.wordOk w=true from M.inR_iff.2 ⟨h0,h1⟩];simp only[oB,bT,cFq];rw[(fR h0 h1 (k:=256) (by omega)).1,(fR h0 h1 (k:=64) (by omega)).1,iM (fR h0 h1 (k:=64) (by omega)).2,iM h0];rfl
theorem aSn{w:Int}(h0:0<=w)(h1:w<=4095):jX w=some (M.ins w):=by unfold jX;rw[sU,show M.wordOk w=true from M.inR_iff.2 ⟨h0,h1⟩];simp only[oB,bT,cFq];rw[(fR h0 h1 (k:=256) (by omega)).1,(fR h0 h1 (k:=64) (by omega)).1,iM (fR h0 h1 (k:=64) (by omega)).2,iM h0];rfl
theorem aIe{w:Int}(h0:0<=w)(h1:w<=4095):M.insOk (M.ins w)=true:=by simp only[M.insOk,M.ins,bA,M.inR_iff];omega
def M.insKernel(x:DIns):Bool:=M.insOk x&&M.kern x.Op
theorem aVf(x:DIns):cO x=some (M.insKernel x):=by
 (cases h:M.insOk x with|true=>rw[aCl h];unfold M.insKernel;rw[h];rfl|false=>unfold cO M.insKernel;rw[aRz,h];rfl)
structure BOk (b : DBare) : Prop where
 regs:b.C.Regs.length=4
 words:M.wordsOk b.C.Regs=true
 pc:0<=b.C.Pc/\b.C.Pc<=63
 vec:0<=b.C.Vector/\b.C.Vector<=63
 sav:0<=b.C.Saved/\b.C.Saved<=63
 bad:0<=b.C.Bad/\b.C.Bad<=63
 root:-1<=b.C.Root/\b.C.Root<=7
 cause:0<=b.C.Cause/\b.C.Cause<=4
 timer:0<=b.C.Timer/\b.C.Timer<=4095
 mem:M.memOk b.Mem=true
 inn:b.In.length<=30
 inw:M.wordsOk b.In=true
 out:b.Out.length<=30
 outw:M.wordsOk b.Out=true
theorem bBj{b:DBare}:M.bareOk b=true↔BOk b:=by
 simp only[M.bareOk,M.coreOk,M.rowOk,M.wordOk,bA,decide_eq_true_eq,M.inR_iff];constructor
 · rintro⟨⟨⟨⟨⟨⟨⟨⟨a1,a2⟩,⟨⟨a3,a4⟩,a5⟩,a6⟩,a7⟩,a8⟩,a9⟩,a10⟩,a11,a12⟩,a13,a14⟩
   exact⟨a1,a2,a3,a4,a5,a6,a7,a8,a9,a10,a11,a12,a13,a14⟩
 · rintro⟨a1,a2,a3,a4,a5,a6,a7,a8,a9,a10,a11,a12,a13,a14⟩
   exact⟨⟨⟨⟨⟨⟨⟨⟨a1,a2⟩,⟨⟨a3,a4⟩,a5⟩,a6⟩,a7⟩,a8⟩,a9⟩,a10⟩,a11,a12⟩,a13,a14⟩
theorem BOk.len{b:DBare}(h:BOk b):b.Mem.length=64:=aTk h.mem
theorem BOk.reg{b:DBare}(h:BOk b){k:Int}(h0:0<=k)(h1:k<4):0<=M.reg b.C k/\M.reg b.C k<=4095:=iD h.words (by have:=h.regs;omega)
structure KOk (b : DBare) : Prop where
 regs:b.C.Regs.length=4
 words:M.wordsOk b.C.Regs=true
 pc:0<=b.C.Pc/\b.C.Pc<=63
 vec:0<=b.C.Vector/\b.C.Vector<=63
 sav:0<=b.C.Saved/\b.C.Saved<=63
 bad:0<=b.C.Bad/\b.C.Bad<=63
 root:-1<=b.C.Root/\b.C.Root<=7
 cause:0<=b.C.Cause/\b.C.Cause<=4
 timer:0<=b.C.Timer/\b.C.Timer<=4095
 inn:b.In.length<=30
 inw:M.wordsOk b.In=true
 out:b.Out.length<=30
 outw:M.wordsOk b.Out=true
theorem BOk.k{b:DBare}(h:BOk b):KOk b:=⟨h.regs,h.words,h.pc,h.vec,h.sav,h.bad,h.root,h.cause,h.timer,h.inn,h.inw,h.out,h.outw⟩
theorem KOk.reg{b:DBare}(h:KOk b){k:Int}(h0:0<=k)(h1:k<4):0<=M.reg b.C k/\M.reg b.C k<=4095:=iD h.words (by have:=h.regs;omega)
theorem KOk.to{b b':DBare}(h:KOk b)(h1:b'.C=b.C)(h2:b'.In=b.In)(h3:b'.Out=b.Out):KOk b':=by obtain⟨c,m,i,o⟩:=b';simp only at h1 h2 h3;subst h1 h2 h3;exact⟨h.regs,h.words,h.pc,h.vec,h.sav,h.bad,h.root,h.cause,h.timer,h.inn,h.inw,h.out,h.outw⟩
section
variable {b : DBare} {op a n : Int}
theorem KOk.gA(hb:KOk b)(h0:0<=a)(h1:a<=3):0<=a/\a<((b.C.Regs.length:Nat):Int):=by have:=hb.regs;omega
theorem aGc(h0:0<=n):Int.tmod n 4=n%4:=iM h0
theorem aLq(hb:KOk b)(h0:0<=n):cY b.C ⟨op,a,n⟩=some (M.reg b.C (n%4)%64):=by unfold cY;simp only[aGc h0];rw[aB (hb.gA (by omega) (by omega)),show b.C.Regs.getD (n%4).toNat default=M.reg b.C (n%4)from rfl,iM (hb.reg (by omega) (by omega)).1]
end
theorem aWi{c:DCore}(h0:0<=c.Timer)(h1:c.Timer<=4095):gH c=some (M.tick c):=by unfold gH M.tick aAu;rw[aF (z:=c.Timer-1) (by omega) (by omega)];cases decide (c.Timer=0)<;>cases decide (c.Timer-1=0)<;>rfl
theorem aUq{c:DCore}(h0:0<=c.Timer)(h1:c.Timer<=4095):gC c=some (bif (M.tick c).Waits&&(M.tick c).On then(M.trap (M.quiet (M.tick c)) (M.tick c).Pc 4 0,true)else(M.tick c,false)):=by unfold gC wS wR;obtain⟨r,pc,ro,v,s,su,ca,ba,t,w,u,o,st⟩:=c;simp only at h0 h1;rw[aF (z:=t-1) (by omega) (by omega)];by_cases e:t=0;{subst e;simp only[M.tick,decide_true,cTq,Int.lt_irrefl,decide_false,cFq,oB,JO.run];cases w<;>cases o<;>rfl};{simp only[M.tick,dF e,dT (show 0<t by omega),cTq,cFq];by_cases e1:t-1=0;{simp only[dT e1,cTq,oB,JO.run];cases o<;>rfl};{simp only[dF e1,cFq,oB,JO.run];cases w<;>cases o<;>rfl}}
theorem aBn(c:DCore):eT c=some (c.Waits&&c.On):=by unfold eT;cases c.Waits<;>rfl
namespace M
def bVy:DCore:=⟨[],0,0,0,0,false,0,0,0,false,false,false,false⟩
def zero:DBare:=⟨bVy,[],[],[]⟩
end M
section
variable {b : DBare} {op a n : Int}
theorem BOk.tick(hb:BOk b):BOk (M.with_ b (M.tick b.C)):=by have ht:=hb.timer;unfold M.tick;by_cases e:b.C.Timer=0;{rw[dT e];exact⟨hb.regs,hb.words,hb.pc,hb.vec,hb.sav,hb.bad,hb.root,hb.cause,hb.timer,hb.mem,hb.inn,hb.inw,hb.out,hb.outw⟩};{rw[dF e];exact⟨hb.regs,hb.words,hb.pc,hb.vec,hb.sav,hb.bad,hb.root,hb.cause,⟨by show 0<=b.C.Timer-1;omega,by show b.C.Timer-1<=4095;omega⟩,hb.mem,hb.inn,hb.inw,hb.out,hb.outw⟩}
theorem zT(hb:BOk b){z:Int}(h0:0<=z)(h1:z<64):0<=b.Mem.getD z.toNat default/\b.Mem.getD z.toNat default<=4095:=iD (aLs hb.mem) (by have:=hb.len;omega)
theorem bAw(b:DBare)(i:DIns):(M.kdo b i).Mem=b.Mem:=by unfold M.kdo;cases decide (i.Op=0)<;>cases decide (i.Op=8)<;>cases decide (i.Op=9)<;>cases decide (i.Op=10)<;>cases decide (i.Op=11)<;>cases decide (i.Op=12)<;>cases decide (i.Op=13)<;>rfl
theorem BOk.trap(hb:BOk b){src cause bad:Int}(h1:0<=src/\src<=63)(h2:0<=cause/\cause<=4)(h3:0<=bad/\bad<=63):BOk (M.with_ b (M.trap b.C src cause bad)):=⟨hb.regs,hb.words,hb.vec,hb.vec,h1,h3,hb.root,h2,hb.timer,hb.mem,hb.inn,hb.inw,hb.out,hb.outw⟩
theorem BOk.at_(hb:BOk b){pc:Int}(h:0<=pc/\pc<=63):BOk (M.with_ b (M.at_ b.C pc)):=⟨hb.regs,hb.words,h,hb.vec,hb.sav,hb.bad,hb.root,hb.cause,hb.timer,hb.mem,hb.inn,hb.inw,hb.out,hb.outw⟩
theorem BOk.go(hb:BOk b):BOk (M.with_ b (M.go b.C)):=hb.at_ (by omega)
theorem BOk.put(hb:BOk b){w:Int}(h:0<=w/\w<=4095):BOk (M.with_ b (M.put b.C a w)):=⟨by show(b.C.Regs.set _ _).length=4;rw[lS];exact hb.regs,aCf hb.words h.1 h.2,hb.pc,hb.vec,hb.sav,hb.bad,hb.root,hb.cause,hb.timer,hb.mem,hb.inn,hb.inw,hb.out,hb.outw⟩
theorem aZr{xs:List Int}{w:Int}(h:M.wordsOk xs=true)(hw:0<=w/\w<=4095):M.wordsOk (xs++[w])=true:=by refine List.all_eq_true.2 λx hx=>?_;rcases List.mem_append.1 hx with h1|h1;{exact List.all_eq_true.1 h x h1};{rw[List.mem_singleton.1 h1];exact M.inR_iff.2 hw}
theorem aWr{xs:List Int}(h:M.wordsOk xs=true):M.wordsOk (xs.drop 1)=true:=List.all_eq_true.2 λx hx=>List.all_eq_true.1 h x (List.mem_of_mem_drop hx)
theorem bKl{xs:List Int}(h:M.wordsOk xs=true):0<=M.first xs/\M.first xs<=4095:=by
 (cases xs with|nil=>exact⟨by decide,by decide⟩|cons x xs=>exact M.inR_iff.1 (List.all_eq_true.1 h x (List.mem_cons_self ..)))
theorem bTy(hb:BOk b){k:Int}:0<=M.cin b k/\M.cin b k<=4095:=by have h1:=hb.cause;have h2:=hb.bad;have h3:=hb.sav;have h4:=bKl hb.inw;unfold M.cin;cases decide (k=1)<;>cases decide (k=2)<;>cases decide (k=3)<;>simp only[cTq,cFq]<;>omega
theorem bSa(hb:BOk b)(a0:0<=a)(a1:a<=3):BOk (M.kdo b ⟨op,a,n⟩):=by
 have g:=hb.reg a0 (by omega);unfold M.kdo;simp only;cases decide (op=0)with
 |true=>exact⟨hb.regs,hb.words,hb.pc,hb.vec,hb.sav,hb.bad,hb.root,hb.cause,hb.timer,hb.mem,hb.inn,hb.inw,hb.out,hb.outw⟩
 |false=>
 cases decide (op=8)with
 |true=>have hr:-1<=M.root (M.reg b.C a)/\M.root (M.reg b.C a)<=7:=(by unfold M.root;by_cases e:M.reg b.C a%16<8;{rw[dT e,cTq];omega};{rw[dF e,cFq];omega});exact BOk.go (b:=M.with_ b ⟨b.C.Regs,b.C.Pc,M.root (M.reg b.C a),b.C.Vector,b.C.Saved,b.C.SavedUser,b.C.Cause,b.C.Bad,b.C.Timer,b.C.Waits,b.C.User,b.C.On,b.C.Stopped⟩) ⟨hb.regs,hb.words,hb.pc,hb.vec,hb.sav,hb.bad,hr,hb.cause,hb.timer,hb.mem,hb.inn,hb.inw,hb.out,hb.outw⟩
 |false=>
 cases decide (op=9)with
 |true=>exact BOk.go (b:=M.with_ b ⟨b.C.Regs,b.C.Pc,b.C.Root,M.reg b.C a%64,b.C.Saved,b.C.SavedUser,b.C.Cause,b.C.Bad,b.C.Timer,b.C.Waits,b.C.User,b.C.On,b.C.Stopped⟩) ⟨hb.regs,hb.words,hb.pc,by show 0<=M.reg b.C a%64/\M.reg b.C a%64<=63;omega,hb.sav,hb.bad,hb.root,hb.cause,hb.timer,hb.mem,hb.inn,hb.inw,hb.out,hb.outw⟩
 |false=>
 cases decide (op=10)with
 |true=>exact BOk.go (b:=M.with_ b ⟨b.C.Regs,b.C.Pc,b.C.Root,b.C.Vector,b.C.Saved,b.C.SavedUser,b.C.Cause,b.C.Bad,M.reg b.C a,b.C.Waits,b.C.User,b.C.On,b.C.Stopped⟩) ⟨hb.regs,hb.words,hb.pc,hb.vec,hb.sav,hb.bad,hb.root,hb.cause,g,hb.mem,hb.inn,hb.inw,hb.out,hb.outw⟩
 |false=>
 cases decide (op=11)with
 |true=>exact⟨hb.regs,hb.words,hb.sav,hb.vec,hb.sav,hb.bad,hb.root,hb.cause,hb.timer,hb.mem,hb.inn,hb.inw,hb.out,hb.outw⟩
 |false=>
 cases decide (op=12)with
 |true=>exact BOk.go (b:=M.with_ b ⟨b.C.Regs,b.C.Pc,b.C.Root,b.C.Vector,b.C.Saved,b.C.SavedUser,b.C.Cause,b.C.Bad,b.C.Timer,b.C.Waits,b.C.User,decide (n%2=1),b.C.Stopped⟩) ⟨hb.regs,hb.words,hb.pc,hb.vec,hb.sav,hb.bad,hb.root,hb.cause,hb.timer,hb.mem,hb.inn,hb.inw,hb.out,hb.outw⟩
 |false=>
 have h:=hb.go;(cases decide (op=13)with|true=>simp only[cTq,cFq];by_cases e:b.Out.length<30;{rw[dT e];exact⟨h.regs,h.words,h.pc,h.vec,h.sav,h.bad,h.root,h.cause,h.timer,h.mem,h.inn,h.inw,by show(b.Out++[_]).length<=30;simp only[List.length_append,List.length_cons,List.length_nil];omega,aZr hb.outw g⟩};{rw[dF e];exact h}|false=>simp only[cFq];have h:=(hb.put (a:=a) (bTy hb (k:=n%4))).go;refine⟨h.regs,h.words,h.pc,h.vec,h.sav,h.bad,h.root,h.cause,h.timer,h.mem,?_,?_,h.out,h.outw⟩;{show(M.rest b.In (n%4)).length<=30;have:=hb.inn;unfold M.rest;cases decide (n%4=0)<;>simp only[cTq,cFq,List.length_drop]<;>omega};{show M.wordsOk (M.rest b.In (n%4))=true;unfold M.rest;cases decide (n%4=0);{exact hb.inw};{exact aWr hb.inw}})
theorem bLh(hb:BOk b)(a0:0<=a)(a1:a<=3)(n0:0<=n)(n1:n<=63):BOk (M.with_ b (M.plain b.C ⟨op,a,n⟩)):=by
 have hp:=hb.pc;unfold M.plain;simp only;cases decide (op=1)with
 |true=>exact(hb.put (a:=a) (w:=n) (by omega)).go
 |false=>
 cases decide (op=2)with
 |true=>exact(hb.put (a:=a) (w:=(M.reg b.C a+M.reg b.C (n%4))%4096) (by omega)).go
 |false=>
 cases decide (op=15)with
 |true=>exact(hb.put (a:=a) (w:=(M.reg b.C a-M.reg b.C (n%4)+4096)%4096) (by omega)).go
 |false=>
 cases decide (op=5)with
 |true=>exact hb.at_ ⟨n0,n1⟩
 |false=>
 (cases decide (op=6)with|true=>(cases decide (M.reg b.C a=0)with|true=>exact hb.go|false=>exact hb.at_ ⟨n0,n1⟩)|false=>exact hb.trap (src:=(b.C.Pc+1)%64) (cause:=1) (bad:=0) (by omega) (by omega) (by omega))
theorem bHt(hb:BOk b)(a0:0<=a)(a1:a<=3)(n0:0<=n)(ho:op=3\/op=4):BOk (M.mdo b ⟨op,a,n⟩):=by have g:=hb.reg a0 (by omega);unfold M.mdo;simp only;by_cases h:M.walk b.Mem b.C.Root (M.reg b.C (n%4)%64) b.C.User (decide (op=4))=-1;{rw[dT h];exact hb.trap (src:=b.C.Pc) (cause:=2) (bad:=M.reg b.C (n%4)%64) hb.pc (by omega) (by omega)};{have hw:=aDm _ _ _ _ _ h;rw[dF h];rcases ho with rfl|rfl;{simp only[Int.reduceEq,decide_false]at hw;exact(hb.put (a:=a) (zT hb hw.1 hw.2)).go};{have h2:=hb.go;refine⟨h2.regs,h2.words,h2.pc,h2.vec,h2.sav,h2.bad,h2.root,h2.cause,h2.timer,?_,h2.inn,h2.inw,h2.out,h2.outw⟩;show M.memOk (b.Mem.set _ _)=true;simp only[M.memOk,lS,hb.len,decide_true,Bool.true_and];exact aCf (aLs hb.mem) g.1 g.2}}
theorem bSq(hb:BOk b){i:DIns}(hi:M.insOk i=true):BOk (M.did b i):=by obtain⟨op,a,n⟩:=i;simp only[M.insOk,bA,M.inR_iff]at hi;obtain⟨⟨⟨o0,o1⟩,a0,a1⟩,n0,n1⟩:=hi;unfold M.did;simp only;(cases M.kern op with|true=>(cases b.C.User with|true=>exact hb.trap (src:=b.C.Pc) (cause:=3) (bad:=0) hb.pc (by omega) (by omega)|false=>exact bSa hb a0 a1)|false=>by_cases h3:op=3;{rw[dT h3];exact bHt hb a0 a1 n0 (.inl h3)};{by_cases h4:op=4;{rw[dT h4,Bool.or_true];exact bHt hb a0 a1 n0 (.inr h4)};{rw[dF h3,dF h4];exact bLh hb a0 a1 n0 n1}})
theorem aQz(hb:BOk b):BOk (M.step b):=by
 have ht:=hb.tick;unfold M.step;cases b.C.Stopped with
 |true=>exact hb
 |false=>
 cases(M.tick b.C).Waits&&(M.tick b.C).On with
 |true=>have hq:BOk (M.with_ b (M.quiet (M.tick b.C))):=⟨ht.regs,ht.words,ht.pc,ht.vec,ht.sav,ht.bad,ht.root,ht.cause,ht.timer,ht.mem,ht.inn,ht.inw,ht.out,ht.outw⟩;exact hq.trap (src:=(M.tick b.C).Pc) (cause:=4) (bad:=0) ht.pc (by omega) (by omega)
 |false=>
 simp only[cFq];by_cases h:M.walk b.Mem (M.tick b.C).Root (M.tick b.C).Pc (M.tick b.C).User false=-1;{rw[dT h];exact ht.trap (src:=(M.tick b.C).Pc) (cause:=2) (bad:=(M.tick b.C).Pc) ht.pc (by omega) ht.pc};{have hw:=aDm _ _ _ _ _ h;have hm:=zT hb hw.1 hw.2;rw[dF h];exact bSq ht (aIe hm.1 hm.2)}
theorem BOk.small(hb:BOk b):SmallB b:=⟨⟨by have:=hb.regs;omega⟩,by have:=hb.len;omega,by have:=hb.inn;omega,by have:=hb.out;omega⟩
end
end Go.Proofs.YtkjabgefacfpfaaGreat
