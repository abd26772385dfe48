/- The plain functions: what they answer. -/
import Derived.Test.YtobbmlnagjhofaaGreatZY
import Derived.Test.YtobbmlnagjhofaaGreatWFCR1
import Derived.Laws.Bits64
namespace Go.Proofs.YtobbmlnagjhofaaGreat
set_option linter.all false
theorem oB.{u,v} {α:Type u} {β:Type v} (a:α) (f:α->Option β):(some a).bind f=f a:=rfl
theorem dF{p:Prop}[Decidable p](h:¬p):decide p=false:=decide_eq_false h
theorem dT{p:Prop}[Decidable p](h:p):decide p=true:=decide_eq_true h
theorem cFq.{u} {α:Sort u} (a b:α):cond false a b=b:=rfl
theorem cTq.{u} {α:Sort u} (a b:α):cond true a b=a:=rfl
theorem bT:(!true)=false:=rfl
theorem bF:(!false)=true:=rfl
theorem bA(a b:Bool):((a&&b)=true)=(a=true/\b=true):=Bool.and_eq_true a b
theorem iT(n:Nat):Int.toNat (n:Int)=n:=rfl
theorem iM{a b:Int}(h:0<=a):a.tmod b=a%b:=Int.tmod_eq_emod_of_nonneg h
theorem lS.{u} {α:Type u} {xs:List α} {i:Nat} {a:α}:(xs.set i a).length=xs.length:=List.length_set
theorem aW{α:Type}[Inhabited α]{xs:List α}{i:Nat}(h:i<xs.length):xs.getD i default=xs[i]:=by simp[List.getD,h]
namespace M
def inR(lo hi n:Int):Bool:=decide (lo<=n)&&decide (n<=hi)
def wordOk(n:Int):Bool:=inR 0 4095 n
def wordsOk(xs:List Int):Bool:=xs.all wordOk
def memOk(xs:List Int):Bool:=decide (xs.length=64)&&wordsOk xs
theorem inR_iff{lo hi n:Int}:inR lo hi n=true↔lo<=n/\n<=hi:=by simp[inR]
end M
theorem bNd{b:Bool}{x:Option Bool}{y:Bool}(h:x=some y):(cond b x (some false))=some (b&&y):=by cases b<;>simp[h]
theorem qX{b y:Bool}:(cond b (some y) (some false))=some (b&&y):=by cases b<;>rfl
theorem aBp(n:Int):eK n=some (M.wordOk n):=by unfold eK;rw[qX];rfl
theorem xB(n lo hi:Int):bZ n lo hi=some (M.inR lo hi n):=by unfold bZ;rw[qX];rfl
theorem wV(n:Int):gX n=some (M.wordOk n):=by unfold gX;rw[xB];rfl
theorem aPc{a b:Int}:decide (a<b+1)=decide (a<=b):=by rw[decide_eq_decide];omega
theorem tI {T:Type} [Inhabited T] {xs:List T} {Pf:T->Option Bool} {p:T->Bool} (hP:∀x,Pf x=some (p x)) (hl:xs.length<=9223372036854775806) (step:Int->Option (LO Int (JO Unit Bool)))
 (hs:∀k,step k=cond (decide (k<((List.length xs:Nat):Int))) (grd ((0:Int)<=k/\k<((List.length xs:Nat):Int)) (Option.bind (Pf (List.getD xs (Int.toNat k) default)) λv=>cond (!v) (some (.ret (.out false))) (some (.next (w64 (k+(1:Int))))))) (some (.ret (.go ())))):
 iter step 0=some (.ret (bif xs.all p then .go ()else .out false)):=by
 have key:∀k:Int,(0<=k/\k<=(xs.length:Int))->iter step k=some (.ret (bif (xs.drop k.toNat).all p then .go ()else .out false)):=by
  refine aTz _ (λk=>xs.length-k.toNat) _ ?_
  rintro k ⟨h0,h1⟩
  by_cases hk:k<xs.length
  · have e1:xs.drop k.toNat=xs.getD k.toNat default::xs.drop (k+1).toNat:=by
     rw[aW (by omega),show(k+1).toNat=k.toNat+1 by omega];exact List.drop_eq_getElem_cons (by omega)
    have hst:step k=cond (!p (xs.getD k.toNat default)) (some (.ret (.out false))) (some (.next (k+1))):=(by rw[hs,dT hk,cTq,aB ⟨h0,hk⟩,hP,aC (by omega) (by omega)];rfl);(cases hp:p (xs.getD k.toNat default)with|true=>refine .inl ⟨k+1,by rw[hst,hp];rfl,⟨by omega,by omega⟩,by omega,?_⟩;rw[e1,List.all_cons,hp,Bool.true_and]|false=>refine .inr ⟨λs'=>by rw[hst,hp];simp,?_⟩;rw[hst,hp,e1,List.all_cons,hp];rfl)
  {have hk2:k=xs.length:=(by omega);have hf:decide (k<((List.length xs:Nat):Int))=false:=(by simp;omega);refine .inr ⟨λs'=>by rw[hs,hf];simp,?_⟩;rw[hs,hf,hk2];simp}
 simpa using key 0 ⟨by omega,by omega⟩
theorem yF{xs:List Int}(h:xs.length<=9223372036854775806):fU xs=some (M.wordsOk xs):=by unfold fU;rw[tI aBp h (vR xs) (λk=>rfl)];simp only[M.wordsOk];cases xs.all M.wordOk<;>rfl
theorem aVc{xs:List Int}(h:xs.length<=9223372036854775806):nC xs=some (M.memOk xs):=by unfold nC;rw[yF h];show cond _ (some _) (some false)=_;rw[qX];simp only[M.memOk];congr 2;rw[decide_eq_decide];omega
theorem bJz{xs:List Int}(h:xs.length<=9223372036854775806):sD xs=some (M.memOk xs):=by unfold sD;rw[tI wV h (yL xs) (λk=>rfl)];simp only[M.memOk,M.wordsOk];cases xs.all M.wordOk;{simp[LO.val,JO.run]};{simp only[LO.val,JO.run,oB,xZ,cTq,Bool.and_true];congr 1;rw[decide_eq_decide];omega}
theorem aCp{xs:List Int}(h:M.memOk xs=true):xs.length=64:=by simp only[M.memOk,bA,decide_eq_true_eq]at h;exact h.1
theorem iK{xs:List Int}(h:M.wordsOk xs=true){i:Nat}(hi:i<xs.length):0<=xs.getD i default/\xs.getD i default<=4095:=by rw[aW hi];exact M.inR_iff.1 (List.all_eq_true.1 h _ (List.getElem_mem hi))
theorem yR{xs:List Int}(h:M.wordsOk xs=true){i:Nat}{w:Int}(h0:0<=w)(h1:w<=4095):M.wordsOk (xs.set i w)=true:=by refine List.all_eq_true.2 λx hx=>?_;rcases List.mem_or_eq_of_mem_set hx with h2|rfl;{exact List.all_eq_true.1 h x h2};{exact M.inR_iff.2 ⟨h0,h1⟩}
section
variable {T σ S R : Type} [Inhabited T]
theorem qJ {xs:List T} {step:S->Option (LO S R)} (enc:σ->Int->S) (p:T->Bool) (g:σ->T->σ) (fin:σ->R) (r:R) (Inv:Nat->σ->Prop)
 (hs:∀(i:Nat) x s,(i:Int)<(xs.length:Int)->x∈xs->xs.getD i default=x->Inv i s->step (enc s i)=some (bif p x then .next (enc (g s x) ((i:Int)+1))else .ret r)/\(p x=true->Inv (i+1) (g s x)))
 (he:∀s,Inv xs.length s->step (enc s xs.length)=some (.ret (fin s))) (s:σ) (hi:Inv 0 s):
 iter step (enc s 0)=some (.ret (bif xs.all p then fin (xs.foldl g s)else r))/\(xs.all p=true->Inv xs.length (xs.foldl g s)):=by
 have key:∀(suf pre:List T) (s:σ),xs=pre++suf->Inv pre.length s->iter step (enc s pre.length)=some (.ret (bif suf.all p then fin (suf.foldl g s)else r))/\(suf.all p=true->Inv xs.length (suf.foldl g s)):=by
  intro suf;induction suf with
  |nil=>intro pre s hx hi;rw[List.append_nil]at hx;subst hx;rw[cH,he s hi];exact⟨rfl,λ_=>hi⟩
  |cons x suf ih=>intro pre s hx hi;obtain⟨h1,h2⟩:=hs pre.length x s (by rw[hx];simp;omega) (by rw[hx];simp) (by rw[hx];simp[List.getD]) hi;rw[cH,h1];(cases hp:p x with|false=>simp[List.all_cons,hp]|true=>obtain⟨g1,g2⟩:=ih (pre++[x]) (g s x) (by rw[hx];simp) (by simpa using h2 hp);simp only[List.length_append,List.length_cons,List.length_nil,Nat.zero_add,Int.natCast_add]at g1;simp only[cTq,List.all_cons,hp,Bool.true_and,List.foldl_cons];exact⟨g1,g2⟩)
 simpa using key xs [] s rfl hi
theorem nA {xs:List T} {step:S->Option (LO S R)} (enc:σ->Int->S) (g:σ->T->σ) (fin:σ->R) (Inv:Nat->σ->Prop)
 (hs:∀(i:Nat) x s,(i:Int)<(xs.length:Int)->x∈xs->xs.getD i default=x->Inv i s->step (enc s i)=some (.next (enc (g s x) ((i:Int)+1)))/\Inv (i+1) (g s x))
 (he:∀s,Inv xs.length s->step (enc s xs.length)=some (.ret (fin s))) (s:σ) (hi:Inv 0 s):
 iter step (enc s 0)=some (.ret (fin (xs.foldl g s)))/\Inv xs.length (xs.foldl g s):=by
 have h:=qJ (p:=λ_=>true) enc g fin (fin s) Inv (λi x s h1 h2 h3 h4=>⟨(hs i x s h1 h2 h3 h4).1,λ_=>(hs i x s h1 h2 h3 h4).2⟩) he s hi;have e:xs.all (λ_=>true)=true:=(by simp);rw[e]at h;exact⟨h.1,h.2 rfl⟩
theorem aBv {n:Nat} {step:S->Option (LO S R)} (enc:σ->Int->S) (g:σ->Nat->σ) (fin:σ->R) (Inv:Nat->σ->Prop)
 (hs:∀(i:Nat) s,i<n->Inv i s->step (enc s i)=some (.next (enc (g s i) ((i:Int)+1)))/\Inv (i+1) (g s i))
 (he:∀s,Inv n s->step (enc s n)=some (.ret (fin s))) (s:σ) (hi:Inv 0 s):
 iter step (enc s 0)=some (.ret (fin ((List.range n).foldl g s)))/\Inv n ((List.range n).foldl g s):=by
 have h:=nA (xs:=List.range n) enc g fin Inv (λi x s h1 h2 h3 h4=>by have hi:i<n:=(by simpa using h1);have:x=i:=(by rw[<-h3];simp[List.getD,hi]);subst this;exact hs x s hi h4) (by simpa using he) s hi;simpa using h
theorem bDo {n:Nat} {step:S->Option (LO S R)} (enc:Int->S) (p:Nat->Bool) (a r:R)
 (hs:∀(i:Nat),i<n->step (enc i)=some (bif p i then .next (enc ((i:Int)+1))else .ret r))
 (he:step (enc n)=some (.ret a)):
 iter step (enc 0)=some (.ret (bif (List.range n).all p then a else r)):=by
 have h:=qJ (xs:=List.range n) (σ:=Unit) (λ_ k=>enc k) p (λ_ _=>()) (λ_=>a) r (λ_ _=>True) (λi x s h1 h2 h3 h4=>by have hi:i<n:=(by simpa using h1);have:x=i:=(by rw[<-h3];simp[List.getD,hi]);subst this;exact⟨hs x hi,λ_=>trivial⟩) (λs _=>by simpa using he) () trivial;exact h.1
theorem gE {n:Nat} {step:S->Option (LO S R)} (st:Nat->S) (ok:Nat->Bool) (a r:R)
 (hs:∀(i:Nat),i<n->(∀j,j<i->ok j=true)->step (st i)=some (bif ok i then .next (st (i+1))else .ret r))
 (he:(∀j,j<n->ok j=true)->step (st n)=some (.ret a)):
 iter step (st 0)=some (.ret (bif (List.range n).all ok then a else r)):=by
 have key:∀m i,i+m=n->(∀j,j<i->ok j=true)->iter step (st i)=some (.ret (bif (List.range n).all ok then a else r)):=by
  intro m;induction m with
  |zero=>intro i hi ho;have:i=n:=(by omega);subst this;have e:(List.range i).all ok=true:=(by simp only[List.all_eq_true,List.mem_range];exact ho);rw[cH,he ho,e];rfl
  |succ m ih=>intro i hi ho;rw[cH,hs i (by omega) ho];(cases e:ok i with|true=>refine ih (i+1) (by omega) ?_;intro j hj;by_cases h:j=i;{rw[h,e]};{exact ho j (by omega)}|false=>have e2:(List.range n).all ok=false:=(by rw[List.all_eq_false];exact⟨i,by rw[List.mem_range];omega,by rw[e];simp⟩);rw[e2];rfl)
 exact key n 0 (by omega) λj hj=>by omega
end
theorem nX{α β σ:Type}{f:α->List β}{g:σ->β->σ}:∀{xs:List α} {s:σ},xs.foldl (λs x=>(f x).foldl g s) s=(xs.flatMap f).foldl g s
 |[],_=>rfl
 |x::xs,s=>by simp only[List.foldl_cons,List.flatMap_cons,List.foldl_append];exact nX
theorem aGi(n:Int):bO n=some (M.inR 0 63 n):=by unfold bO;rw[qX,show(64:Int)=63+1 from rfl,aPc];rfl
theorem aAg(n:Int):gW n=some (M.inR 0 7 n):=by unfold gW;rw[qX,show(8:Int)=7+1 from rfl,aPc];rfl
theorem aSo(n:Int):jN n=some (M.inR (-1) 7 n):=by unfold jN;rw[aAg];by_cases h:n=-1;{subst h;rfl};{rw[dF h];show some (M.inR 0 7 n)=_;congr 1;simp only[M.inR];congr 1;rw[decide_eq_decide];omega}
noncomputable instance:DecidableEq DCore:=λa b=>Classical.propDecidable (a=b)
noncomputable instance:DecidableEq DBare:=λa b=>Classical.propDecidable (a=b)
namespace M
def coreOk(c:DCore):Bool:=decide (c.Regs.length=4)&&wordsOk c.Regs&&(inR 0 63 c.Pc&&inR 0 63 c.Vector&&inR 0 63 c.Saved&&inR 0 63 c.Bad)&&inR (-1) 7 c.Root&&inR 0 4 c.Cause&&wordOk c.Timer
def rowOk(xs:List Int):Bool:=decide (xs.length<=30)&&wordsOk xs
def bareOk(b:DBare):Bool:=coreOk b.C&&memOk b.Mem&&rowOk b.In&&rowOk b.Out
end M
theorem aEm{xs:List Int}(h:xs.length<=9223372036854775806):iY xs=some (M.rowOk xs):=by unfold iY;rw[yF h];show cond _ (some _) (some false)=_;rw[qX];simp only[M.rowOk];congr 2;rw[decide_eq_decide];omega
theorem aFk{xs:List Int}(h:xs.length<=9223372036854775806):cY xs 30=some (M.rowOk xs):=by unfold cY;rw[tI wV h (oX xs) (λk=>rfl)];simp only[M.rowOk,M.wordsOk];cases xs.all M.wordOk;{simp[LO.val,JO.run]};{simp only[LO.val,JO.run,oB,oZ,cTq,Bool.and_true];congr 1;rw[decide_eq_decide];omega}
theorem aTl{c:DCore}(h:c.Regs.length<=9223372036854775806):lZ c=some (M.coreOk c):=by unfold lZ;simp only[yF h,aGi,aSo,aBp,oB];have e4:decide (((c.Regs.length:Nat):Int)=4)=decide (c.Regs.length=4):=(by rw[decide_eq_decide];omega);rw[e4];simp only[M.coreOk,M.inR];generalize decide (c.Regs.length=4)=b0;generalize M.wordsOk c.Regs=b1;generalize(decide (0<=c.Pc)&&decide (c.Pc<=63))=b2;generalize(decide (0<=c.Vector)&&decide (c.Vector<=63))=b3;generalize(decide (0<=c.Saved)&&decide (c.Saved<=63))=b4;generalize(decide (0<=c.Bad)&&decide (c.Bad<=63))=b5;generalize(decide (-1<=c.Root)&&decide (c.Root<=7))=b6;generalize decide (0<=c.Cause)=b7;generalize decide (c.Cause<=4)=b8;generalize M.wordOk c.Timer=b9;cases b0<;>cases b2<;>cases b3<;>cases b4<;>cases b7<;>cases b1<;>cases b5<;>cases b6<;>cases b8<;>rfl
theorem aTc{c:DCore}(h:c.Regs.length<=9223372036854775806):jO c=some (M.coreOk c):=by unfold jO;rw[tI wV h (wW c) (λk=>rfl)];simp only[M.coreOk,M.wordsOk];cases c.Regs.all M.wordOk;{simp[LO.val,JO.run]};{simp only[LO.val,JO.run,oB,wT,cTq,Bool.and_true,xB,wV];have e4:decide (((c.Regs.length:Nat):Int)=4)=decide (c.Regs.length=4):=(by rw[decide_eq_decide];omega);rw[e4];generalize decide (c.Regs.length=4)=b0;generalize M.inR 0 63 c.Pc=b2;generalize M.inR 0 63 c.Vector=b3;generalize M.inR 0 63 c.Saved=b4;generalize M.inR 0 63 c.Bad=b5;generalize M.inR (-1) 7 c.Root=b6;generalize M.inR 0 4 c.Cause=b7;generalize M.wordOk c.Timer=b9;cases b0<;>cases b2<;>cases b3<;>cases b4<;>cases b7<;>cases b5<;>cases b6<;>rfl}
structure SmallC (c : DCore) : Prop where
 regs:c.Regs.length<=1048576
structure SmallB (b : DBare) : Prop where
 c:SmallC b.C
 mem:b.Mem.length<=1048576
 i:b.In.length<=1048576
 o:b.Out.length<=1048576
theorem bFb{b:DBare}(h:SmallB b):pX b=some (M.bareOk b):=by have:=h.c.regs;have:=h.mem;have:=h.i;have:=h.o;unfold pX;simp only[aTl (show b.C.Regs.length<=9223372036854775806 by omega),aVc (show b.Mem.length<=9223372036854775806 by omega),aEm (show b.In.length<=9223372036854775806 by omega),aEm (show b.Out.length<=9223372036854775806 by omega),oB,M.bareOk];cases M.coreOk b.C<;>cases M.memOk b.Mem<;>cases M.rowOk b.In<;>rfl
theorem bHq{b:DBare}(h:SmallB b):pS b=some (M.bareOk b):=by have:=h.c.regs;have:=h.mem;have:=h.i;have:=h.o;unfold pS;simp only[aTc (show b.C.Regs.length<=9223372036854775806 by omega),bJz (show b.Mem.length<=9223372036854775806 by omega),aFk (show b.In.length<=9223372036854775806 by omega),aFk (show b.Out.length<=9223372036854775806 by omega),oB,M.bareOk];cases M.coreOk b.C<;>cases M.memOk b.Mem<;>cases M.rowOk b.In<;>rfl
noncomputable instance:DecidableEq DSlot:=λa b=>Classical.propDecidable (a=b)
noncomputable instance:DecidableEq DGuest:=λa b=>Classical.propDecidable (a=b)
noncomputable instance:DecidableEq DHost:=λa b=>Classical.propDecidable (a=b)
structure SmallG (g : DGuest) : Prop where
 c:SmallC g.C
 pages:g.Pages.length<=1048576
 i:g.In.length<=1048576
 o:g.Out.length<=1048576
structure SmallH (h : DHost) : Prop where
 words:h.Words.length<=1048576
 guests:h.Guests.length<=1048576
 all:∀g∈h.Guests,SmallG g
theorem cB{T:Type}[Inhabited T]{xs:List T}{k:Nat}(h:k<xs.length):xs.getD k default∈xs:=by rw[aW h];exact List.getElem_mem _
namespace M
def noCore:DCore:=⟨[],0,0,0,0,false,0,0,0,false,false,false,false⟩
def noGuest:DGuest:=⟨false,noCore,[],[],[]⟩
def slotOk(s:DSlot):Bool:=bif decide (s.Frame=-1)then !s.Write&&!s.Dirty else decide (0<=s.Frame)&&decide (s.Frame<20)
noncomputable def guestOk (g:DGuest):Bool:=bif g.Live then coreOk g.C&&(decide (g.Pages.length=8)&&g.Pages.all slotOk)&&rowOk g.In&&rowOk g.Out else decide (g=noGuest)
def slots(gs:List DGuest):List DSlot:=gs.flatMap (·.Pages)
def many(ss:List DSlot)(f:Int):Nat:=ss.countP λs=>decide (s.Frame=f)
def alone(ss:List DSlot):Bool:=ss.all λs=>!s.Write||decide (many ss s.Frame<=1)
def bump(xs:List Int)(s:DSlot):List Int:=bif decide (s.Frame=-1)then xs else xs.set s.Frame.toNat (xs.getD s.Frame.toNat default+1)
def takers(ss:List DSlot):List Int:=ss.foldl bump (List.replicate 20 0)
noncomputable def hostOk (h:DHost):Bool:=decide (h.Words.length=160)&&wordsOk h.Words&&(decide (h.Guests.length=3)&&h.Guests.all guestOk)&&alone (slots h.Guests)
end M
theorem bGh(s:DSlot):qB s=some (M.slotOk s):=by unfold qB M.slotOk;by_cases h:s.Frame=-1;{rw[dT h];cases s.Write<;>rfl};{rw[dF h];simp only[cFq];exact qX}
theorem bEp{xs:List DSlot}(h:xs.length<=9223372036854775806):nY xs=some (decide (xs.length=8)&&xs.all M.slotOk):=by unfold nY;by_cases hl:xs.length=8;{have:decide (((xs.length:Nat):Int)=8)=true:=(by simp;omega);rw[this,bT,cFq,tI bGh h (vJ xs) (λk=>rfl),dT hl];cases xs.all M.slotOk<;>rfl};{have:decide (((xs.length:Nat):Int)=8)=false:=(by simp;omega);rw[this,dF hl];rfl}
theorem dbe{a b:Bool}(h:a=true↔b=true):a=b:=Bool.eq_iff_iff.2 h
theorem aZq(c:DCore):mP c=some (decide (c=M.noCore)):=by obtain⟨a1,a2,a3,a4,a5,a6,a7,a8,a9,a10,a11,a12,a13⟩:=c;unfold mP;simp only[];by_cases h2:a2=0;{by_cases h3:a3=0;{by_cases h4:a4=0;{by_cases h5:a5=0;{by_cases h1:a1=[];{by_cases h8:a8=0;{by_cases h7:a7=0;{by_cases h9:a9=0;{subst h1 h2 h3 h4 h5 h7 h8 h9;cases a6<;>cases a10<;>cases a11<;>cases a12<;>cases a13<;>simp[M.noCore]};{rw[dF (p:=DCore.mk _ _ _ _ _ _ _ _ _ _ _ _ _=M.noCore) (by simp[M.noCore,h9])];simp only[dF h9];cases a6<;>cases a10<;>cases a11<;>cases a12<;>simp}};{rw[dF (p:=DCore.mk _ _ _ _ _ _ _ _ _ _ _ _ _=M.noCore) (by simp[M.noCore,h7])];simp only[dF h7];cases a6<;>cases a10<;>cases a11<;>cases a12<;>simp}};{rw[dF (p:=DCore.mk _ _ _ _ _ _ _ _ _ _ _ _ _=M.noCore) (by simp[M.noCore,h8])];simp only[dF h8];cases a6<;>cases a10<;>cases a11<;>cases a12<;>simp}};{rw[dF (p:=DCore.mk _ _ _ _ _ _ _ _ _ _ _ _ _=M.noCore) (by simp[M.noCore,h1])];have:decide (((a1.length:Nat):Int)=0)=false:=(by simp[h1]);simp only[this];cases a6<;>cases a10<;>cases a11<;>cases a12<;>simp}};{rw[dF (p:=DCore.mk _ _ _ _ _ _ _ _ _ _ _ _ _=M.noCore) (by simp[M.noCore,h5])];simp only[dF h5];cases a6<;>cases a10<;>cases a11<;>cases a12<;>simp}};{rw[dF (p:=DCore.mk _ _ _ _ _ _ _ _ _ _ _ _ _=M.noCore) (by simp[M.noCore,h4])];simp only[dF h4];cases a6<;>cases a10<;>cases a11<;>cases a12<;>simp}};{rw[dF (p:=DCore.mk _ _ _ _ _ _ _ _ _ _ _ _ _=M.noCore) (by simp[M.noCore,h3])];simp only[dF h3];cases a6<;>cases a10<;>cases a11<;>cases a12<;>simp}};{rw[dF (p:=DCore.mk _ _ _ _ _ _ _ _ _ _ _ _ _=M.noCore) (by simp[M.noCore,h2])];simp only[dF h2];cases a6<;>cases a10<;>cases a11<;>cases a12<;>simp}
theorem aSv{g:DGuest}(hl:g.Live=false):kI g=some (decide (g=M.noGuest)):=by unfold kI;rw[aZq,oB];obtain⟨l,c,p,i,o⟩:=g;simp only at hl;subst hl;simp only[M.noGuest,DGuest.mk.injEq,true_and];by_cases h1:c=M.noCore<;>by_cases h2:p=[]<;>by_cases h3:i=[]<;>by_cases h4:o=[]<;>simp[h1,h2,h3,h4]
theorem bMz{g:DGuest}(hl:g.Live=false):lY g=some (decide (g=M.noGuest)):=by
 unfold lY;obtain⟨l,⟨a1,a2,a3,a4,a5,a6,a7,a8,a9,a10,a11,a12,a13⟩,p,i,o⟩:=g;simp only at hl;subst hl;simp only[bNd rfl,qX];congr 1;apply dbe;simp only[bA,decide_eq_true_eq,Bool.not_eq_true',M.noGuest,M.noCore,DGuest.mk.injEq,DCore.mk.injEq,true_and,Int.natCast_eq_zero,List.length_eq_zero_iff];constructor
 · rintro⟨h1,h2,h3,h4,h5,h6,h7,h8,h9,h10,h11,h12,h13,h14,h15,h16⟩;exact⟨⟨h1,h2,h3,h4,h5,h6,h7,h8,h9,h10,h11,h12,h13⟩,h14,h15,h16⟩
 · rintro⟨⟨h1,h2,h3,h4,h5,h6,h7,h8,h9,h10,h11,h12,h13⟩,h14,h15,h16⟩;exact⟨h1,h2,h3,h4,h5,h6,h7,h8,h9,h10,h11,h12,h13,h14,h15,h16⟩
theorem bEk{g:DGuest}(h:SmallG g):kN g=some (M.guestOk g):=by have:=h.c.regs;have:=h.pages;have:=h.i;have:=h.o;unfold kN M.guestOk;(cases hl:g.Live with|false=>simp only[bF,cTq,aSv hl,oB,cFq]|true=>simp only[bT,cFq,cTq];rw[aTl (by omega),bEp (by omega),aEm (by omega),aEm (by omega)];simp only[oB];cases M.coreOk g.C<;>cases(decide (g.Pages.length=8)&&g.Pages.all M.slotOk)<;>cases M.rowOk g.In<;>rfl)
theorem aYs{gs:List DGuest}(hl:gs.length<=1048576)(h:∀g∈gs,SmallG g):mT gs=some (decide (gs.length=3)&&gs.all M.guestOk):=by
 unfold mT;by_cases hl:gs.length=3
 · have:decide (((gs.length:Nat):Int)=3)=true:=by simp;omega
   rw[this,bT,cFq,dT hl,Bool.true_and]
   have key:=(qJ (xs:=gs) (σ:=Unit) (step:=jW gs) (λ_ k=>k) M.guestOk (λ_ _=>()) (λ_=>JO.go ()) (.out false) (λ_ _=>True) (λi x s h1 h2 h3 h4=>by
    refine⟨?_,λ_=>trivial⟩;simp only[jW,dT h1,cTq];rw[aB ⟨by omega,h1⟩,iT,h3];show Option.bind (kN x) _=_;rw[bEk (h x h2),oB,aC (by omega) (by omega)];cases M.guestOk x<;>rfl) (λs _=>by
    simp only[jW];rw[dF (by omega),cFq]) () trivial).1
   rw[key];cases gs.all M.guestOk<;>rfl
 {have:decide (((gs.length:Nat):Int)=3)=false:=(by simp;omega);rw[this,dF hl];rfl}
theorem wP{xs:List Int}{i j:Nat}{v:Int}(hi:i<xs.length):(xs.set i v).getD j default=if i=j then v else xs.getD j default:=by by_cases h:i=j;{subst h;simp[List.getD,hi]};{simp[List.getD,List.getElem?_set,h]}
theorem aQh{xs:List Int}{s:DSlot}:(M.bump xs s).length=xs.length:=by unfold M.bump;cases decide (s.Frame=-1)<;>simp
theorem iH{s:DSlot}(h:M.slotOk s=true):-1<=s.Frame/\s.Frame<20:=by unfold M.slotOk at h;by_cases e:s.Frame=-1;{omega};{rw[dF e,cFq,bA,decide_eq_true_eq,decide_eq_true_eq]at h;omega}
theorem aRp{xs:List Int}{s:DSlot}(hl:xs.length=20)(h:M.slotOk s=true){f:Nat}(hf:f<20):(M.bump xs s).getD f default=xs.getD f default+(if s.Frame=(f:Int)then 1 else 0):=by have hr:=iH h;unfold M.bump;by_cases e:s.Frame=-1;{rw[dT e,cTq,if_neg (by omega)];omega};{rw[dF e,cFq,wP (by omega)];by_cases e2:s.Frame=(f:Int);{rw[if_pos (by omega),if_pos e2];congr 2;omega};{rw[if_neg (by omega),if_neg e2];omega}}
theorem jX{s:DSlot}{ss:List DSlot}{f:Int}:M.many (s::ss) f=M.many ss f+(if s.Frame=f then 1 else 0):=by simp only[M.many,List.countP_cons,decide_eq_true_eq]
theorem aEk{f:Nat}(hf:f<20):∀{ss:List DSlot} {xs:List Int},xs.length=20->ss.all M.slotOk=true->(ss.foldl M.bump xs).length=20/\(ss.foldl M.bump xs).getD f default=xs.getD f default+(M.many ss f:Int)
 |[],xs,hl,_=>⟨hl,by simp[M.many]⟩
 |s::ss,xs,hl,h=>by rw[List.all_cons,bA]at h;obtain⟨h1,h2⟩:=aEk hf (ss:=ss) (xs:=M.bump xs s) (by rw[aQh,hl]) h.2;refine⟨h1,?_⟩;rw[List.foldl_cons,h2,aRp hl h.1 hf,jX];split<;>simp<;>omega
theorem rN{ss:List DSlot}(h:ss.all M.slotOk=true):(M.takers ss).length=20:=(aEk (f:=0) (by omega) (xs:=List.replicate 20 0) (by simp) h).1
theorem wB{ss:List DSlot}(h:ss.all M.slotOk=true){f:Nat}(hf:f<20):(M.takers ss).getD f default=(M.many ss f:Int):=by unfold M.takers;rw[(aEk (f:=f) hf (xs:=List.replicate 20 0) (by simp) h).2];have:(List.replicate 20 (0:Int)).getD f default=0:=(by rw[aW (by rw[List.length_replicate];omega),List.getElem_replicate]);omega
theorem kE{g:DGuest}(h:M.guestOk g=true):g.Pages.all M.slotOk=true/\g.Pages.length<=8:=by unfold M.guestOk at h;(cases hl:g.Live with|true=>rw[hl,cTq]at h;simp only[bA,decide_eq_true_eq]at h;exact⟨h.1.1.2.2,by omega⟩|false=>rw[hl,cFq,decide_eq_true_eq]at h;rw[h];exact⟨rfl,by simp[M.noGuest]⟩)
theorem uR{gs:List DGuest}(h:gs.all M.guestOk=true):(M.slots gs).all M.slotOk=true:=by simp only[M.slots,List.all_flatMap,List.all_eq_true]at h ⊢;exact λg hg=>List.all_eq_true.1 (kE (h g hg)).1
structure Tl (B : Nat) (xs : List Int) : Prop where
 len:xs.length=20
 low:∀i,i<20->0<=xs.getD i default
 top:∀i,i<20->xs.getD i default<=(B:Int)
theorem Tl.mono{B C:Nat}{xs:List Int}(h:Tl B xs)(hB:B<=C):Tl C xs:=⟨h.len,h.low,λi hi=>by have:=h.top i hi;omega⟩
theorem Tl.bump{B:Nat}{xs:List Int}{s:DSlot}(h:Tl B xs)(hs:M.slotOk s=true):Tl (B+1) (M.bump xs s):=by refine⟨by rw[aQh,h.len],λi hi=>?_,λi hi=>?_⟩;all_goals rw[aRp h.len hs hi];have:=h.low i hi;have:=h.top i hi;split<;>omega
theorem Tl.zero:Tl 0 (List.replicate 20 0):=by refine⟨by simp,λi hi=>?_,λi hi=>?_⟩;all_goals rw[aW (by rw[List.length_replicate];omega),List.getElem_replicate];omega
theorem bKe{xs:List Int}{s:DSlot}{B:Nat}(hs:M.slotOk s=true)(ht:Tl B xs)(hB:B<=1000000000){Y:Type}:(cond (!decide (s.Frame=(-1:Int))) (grd ((0:Int)<=s.Frame/\s.Frame<((xs.length:Nat):Int)) (grd ((0:Int)<=s.Frame/\s.Frame<((xs.length:Nat):Int)) (some (JO.go (List.set xs (Int.toNat s.Frame) (w64 ((List.getD xs (Int.toNat s.Frame) default)+(1:Int)))))))) (some (JO.go xs)):Option (JO (List Int) Y))=some (.go (M.bump xs s)):=by have hr:=iH hs;have hl:=ht.len;unfold M.bump;by_cases e:s.Frame=-1;{rw[dT e];rfl};{rw[dF e];have h1:=ht.low s.Frame.toNat (by omega);have h2:=ht.top s.Frame.toNat (by omega);rw[bF,cTq,cFq,aB ⟨by omega,by omega⟩,aB ⟨by omega,by omega⟩,aC (by omega) (by omega)]}
theorem aIt{gs:List DGuest}(hl:gs.length<=1048576)(h:gs.all M.guestOk=true):eP gs=some (M.takers (M.slots gs)):=by
 have hin:∀(k:Nat) (g:DGuest) (xs:List Int) (h1:(k:Int)<(gs.length:Int)) (h2:g∈gs) (h3:gs.getD k default=g) (h4:Tl (8*k) xs),
  iter (eU gs (xs,(k:Int))) (xs,0)=some (.ret (.go (g.Pages.foldl M.bump xs)))/\Tl (8*k+g.Pages.length) (g.Pages.foldl M.bump xs):=by
  intro k g xs h1 h2 h3 h4;obtain⟨g1,g2⟩:=kE (List.all_eq_true.1 h g h2)
  exact nA (xs:=g.Pages) (step:=eU gs (xs,(k:Int))) (λs j=>(s,j)) M.bump (λs=> .go s) (λj s=>Tl (8*k+j) s) (λj x s a1 a2 a3 a4=>by
   refine⟨?_,a4.bump (List.all_eq_true.1 g1 x a2)⟩;simp only[eU,iT,h3,dT a1,cTq];rw[aB ⟨by omega,a1⟩,a3,bKe (List.all_eq_true.1 g1 x a2) a4 (by omega),oB];simp only[JO.run,rB];rw[aC (by omega) (by omega)]) (λs _=>by
   simp only[eU,iT,h3];rw[dF (by omega),cFq]) xs h4
 have key:=(nA (xs:=gs) (step:=gT gs) (λs j=>(s,j)) (λs g=>g.Pages.foldl M.bump s) (λs=> .go s) (λk s=>Tl (8*k) s) (λk g s a1 a2 a3 a4=>by
  obtain⟨b1,b2⟩:=hin k g s a1 a2 a3 a4;refine⟨?_,b2.mono (by have:=(kE (List.all_eq_true.1 h g a2)).2;omega)⟩;simp only[gT,dT a1,cTq];rw[aB ⟨by omega,a1⟩,b1];simp only[oB,LO.val,JO.run,rK];rw[aC (by omega) (by omega)]) (λs _=>by
  simp only[gT];rw[dF (by omega),cFq]) (List.replicate 20 0) (Tl.zero.mono (by omega))).1
 unfold eP;rw[show Int.toNat (20:Int)=20 from rfl,key];simp only[oB,LO.val,JO.run,rD];rw[nX];rfl
theorem bKo{gs:List DGuest}(hl:gs.length<=1048576)(h:gs.all M.guestOk=true)(hwr:True):gD gs=some (M.alone (M.slots gs)):=by
 unfold gD;rw[aIt hl h,oB];have hs:=uR h
 have hin:∀(k:Nat) (g:DGuest) (h1:(k:Int)<(gs.length:Int)) (h2:g∈gs) (h3:gs.getD k default=g),
  iter (dB gs (M.takers (M.slots gs)) (k:Int)) 0=some (.ret (bif g.Pages.all (λs=>!s.Write||decide (M.many (M.slots gs) s.Frame<=1))then .go ()else .out (.ret (.out false)))):=by
  intro k g h1 h2 h3;obtain⟨g1,g2⟩:=kE (List.all_eq_true.1 h g h2)
  exact(qJ (xs:=g.Pages) (σ:=Unit) (step:=dB gs (M.takers (M.slots gs)) (k:Int)) (λ_ j=>j) _ (λ_ _=>()) (λ_=>JO.go ()) _ (λ_ _=>True) (λj x s a1 a2 a3 _=>by
   refine⟨?_,λ_=>trivial⟩;have hx:=List.all_eq_true.1 g1 x a2;have hr:=iH hx;simp only[dB,iT,h3,dT a1,cTq,a3];rw[aB ⟨by omega,a1⟩];cases hw:x.Write with
   |false=>simp only[cFq,oB,JO.run,iD,bF,Bool.true_or,cTq];rw[aC (by omega) (by omega)]
   |true=>
    have hf:x.Frame≠-1:=λe=>by unfold M.slotOk at hx;rw[dT e,hw]at hx;simp at hx
    have hlt:=rN hs;simp only[cTq];rw[aB ⟨by omega,by omega⟩,wB hs (by omega),show((x.Frame.toNat:Nat):Int)=x.Frame by omega];by_cases e:M.many (M.slots gs) x.Frame<=1;{rw[dF (by omega),dT e];simp only[cFq,oB,JO.run,iD,bT,Bool.false_or,cTq];rw[aC (by omega) (by omega)]}
    · rw[dT (by omega),dF e];rfl) (λs _=>by
   simp only[dB,iT,h3];rw[dF (by omega),cFq]) () trivial).1
 have key:=(qJ (xs:=gs) (σ:=Unit) (step:=eW gs (M.takers (M.slots gs))) (λ_ j=>j) (λg=>g.Pages.all (λs=>!s.Write||decide (M.many (M.slots gs) s.Frame<=1))) (λ_ _=>()) (λ_=>JO.go ()) (.out false) (λ_ _=>True) (λk g s a1 a2 a3 _=>by
  refine⟨?_,λ_=>trivial⟩;simp only[eW,dT a1,cTq];rw[aB ⟨by omega,a1⟩,hin k g a1 a2 a3];cases g.Pages.all (λs=>!s.Write||decide (M.many (M.slots gs) s.Frame<=1))with
  |false=>rfl
  |true=>simp only[cTq,oB,LO.val,JO.run,mV];rw[aC (by omega) (by omega)]) (λs _=>by
  simp only[eW];rw[dF (by omega),cFq]) () trivial).1
 rw[key]
 have e:M.alone (M.slots gs)=gs.all (λg=>g.Pages.all (λs=>!s.Write||decide (M.many (M.slots gs) s.Frame<=1))):=by
  simp only[M.alone]
  conv=>lhs;arg 1;unfold M.slots
  rw[List.all_flatMap]
 rw[e];cases gs.all (λg=>g.Pages.all (λs=>!s.Write||decide (M.many (M.slots gs) s.Frame<=1)))<;>rfl
theorem aPo{h:DHost}(hs:SmallH h):lW h=some (M.hostOk h):=by have:=hs.words;unfold lW M.hostOk;by_cases hl:h.Words.length=160;{rw[show decide (((h.Words.length:Nat):Int)=160)=true by simp;omega,cTq,yF (by omega),dT hl,oB];(cases M.wordsOk h.Words with|false=>rfl|true=>rw[cTq,aYs hs.guests hs.all,oB];(cases hg:(decide (h.Guests.length=3)&&h.Guests.all M.guestOk)with|false=>rfl|true=>rw[bA]at hg;rw[cTq,bKo hs.guests hg.2 trivial];rfl))};{rw[show decide (((h.Words.length:Nat):Int)=160)=false by simp;omega,dF hl];rfl}
theorem bEz{xs:List Int}{n:Int}(h:xs.length<=9223372036854775806):cY xs n=some (decide ((xs.length:Int)<=n)&&M.wordsOk xs):=by unfold cY;rw[tI wV h (oX xs) (λk=>rfl)];simp only[M.wordsOk];cases xs.all M.wordOk;{simp[LO.val,JO.run]};{simp only[LO.val,JO.run,oB,oZ,cTq,Bool.and_true]}
namespace M
def bumpW(ws:List Bool)(s:DSlot):List Bool:=bif decide (s.Frame=-1)then ws else ws.set s.Frame.toNat (ws.getD s.Frame.toNat default||s.Write)
def bump2(p:List Int×List Bool)(s:DSlot):List Int×List Bool:=(bump p.1 s,bumpW p.2 s)
end M
theorem bGp{xs:List Bool}{i j:Nat}{v:Bool}(hi:i<xs.length):(xs.set i v).getD j default=if i=j then v else xs.getD j default:=by by_cases h:i=j;{subst h;simp[List.getD,hi]};{simp[List.getD,List.getElem?_set,h]}
theorem aOb{xs:List Bool}{s:DSlot}:(M.bumpW xs s).length=xs.length:=by unfold M.bumpW;cases decide (s.Frame=-1)<;>simp
theorem bCq{xs:List Bool}{s:DSlot}(hl:xs.length=20)(h:M.slotOk s=true){f:Nat}(hf:f<20):(M.bumpW xs s).getD f default=(xs.getD f default||(decide (s.Frame=(f:Int))&&s.Write)):=by have hr:=iH h;unfold M.bumpW;by_cases e:s.Frame=-1;{rw[dT e,cTq,dF (by omega)];simp};{rw[dF e,cFq,bGp (by omega)];by_cases e2:s.Frame=(f:Int);{rw[if_pos (by omega),dT e2,Bool.true_and];congr 2;omega};{rw[if_neg (by omega),dF e2];simp}}
theorem aOl:∀{ss:List DSlot} {p:List Int×List Bool},(ss.foldl M.bump2 p).1=ss.foldl M.bump p.1
 |[],_=>rfl
 |s::ss,p=>by rw[List.foldl_cons,aOl];rfl
theorem aNf{f:Nat}(hf:f<20):∀{ss:List DSlot} {p:List Int×List Bool},p.2.length=20->ss.all M.slotOk=true->(ss.foldl M.bump2 p).2.length=20/\(ss.foldl M.bump2 p).2.getD f default=(p.2.getD f default||ss.any λs=>decide (s.Frame=(f:Int))&&s.Write)
 |[],p,hl,_=>⟨hl,by simp⟩
 |s::ss,p,hl,h=>by rw[List.all_cons,bA]at h;obtain⟨h1,h2⟩:=aNf hf (ss:=ss) (p:=M.bump2 p s) (by simpa[M.bump2,aOb]using hl) h.2;refine⟨h1,?_⟩;rw[List.foldl_cons,h2,List.any_cons];simp only[M.bump2];rw[bCq hl h.1 hf,Bool.or_assoc]
structure Tw (B : Nat) (p : List Int × List Bool) : Prop where
 tl:Tl B p.1
 len:p.2.length=20
theorem Tw.bump{B:Nat}{p:List Int×List Bool}{s:DSlot}(h:Tw B p)(hs:M.slotOk s=true):Tw (B+1) (M.bump2 p s):=⟨h.tl.bump hs,by simp[M.bump2,aOb,h.len]⟩
theorem aVk{h:DHost}{k:Nat}{g:DGuest}{p:List Int×List Bool}{B:Nat}(hl:g.Pages.length<=8)(h3:h.Guests.getD k default=g)(ht:Tw B p)(hB:B<=1000000):
 iter (hU h (p.1,p.2,(k:Int))) (p.1,p.2,0)=some (.ret (bif g.Pages.all M.slotOk then .go ((g.Pages.foldl M.bump2 p).1,(g.Pages.foldl M.bump2 p).2)else .out (.ret (.out false))))/\(g.Pages.all M.slotOk=true->Tw (B+g.Pages.length) (g.Pages.foldl M.bump2 p)):=by
 exact qJ (xs:=g.Pages) (step:=hU h (p.1,p.2,(k:Int))) (λs j=>(s.1,s.2,j)) M.slotOk M.bump2 (λs=> .go (s.1,s.2)) (.out (.ret (.out false))) (λj s=>Tw (B+j) s) (λj x s a1 a2 a3 a4=>by
  refine⟨?_,λhx=>a4.bump hx⟩;simp only[hU,iT,h3,dT a1,cTq,a3];rw[aB ⟨by omega,a1⟩,xB,oB];have hgo:M.slotOk x=true->pL h (p.1,p.2,(k:Int)) (s.1,s.2,(j:Int)) ()=some (.go ((M.bump2 s x).2,(M.bump2 s x).1)):=λhx=>by have hr:=iH hx;have hl1:=a4.tl.len;have hl2:=a4.len;simp only[pL,iT,h3,a3,M.bump2,M.bump,M.bumpW];by_cases e:x.Frame=-1;{rw[dF (p:=(0:Int)<=x.Frame) (by omega),dT e];rfl};{have q1:=a4.tl.low x.Frame.toNat (by omega);have q2:=a4.tl.top x.Frame.toNat (by omega);rw[dT (p:=(0:Int)<=x.Frame) (by omega),dF e];simp only[cTq,cFq];rw[aB ⟨by omega,by omega⟩,aB ⟨by omega,by omega⟩,aB ⟨by omega,by omega⟩,aC (by omega) (by omega)];(cases hw:s.2.getD x.Frame.toNat default with|true=>rw[cTq,aB ⟨by omega,by omega⟩,Bool.true_or]|false=>rw[cFq,aB ⟨by omega,by omega⟩,Bool.false_or])}
  by_cases e:x.Frame=-1;{have hin:M.inR (-1) 19 x.Frame=true:=(by rw[M.inR_iff];omega);rw[hin,bT,cFq,dT e,cTq];(cases hw:x.Write with|true=>have:M.slotOk x=false:=(by unfold M.slotOk;rw[dT e,hw];rfl);rw[this];rfl|false=>(cases hd:x.Dirty with|true=>have:M.slotOk x=false:=(by unfold M.slotOk;rw[dT e,hw,hd];rfl);rw[this];rfl|false=>have hx:M.slotOk x=true:=(by unfold M.slotOk;rw[dT e,hw,hd];rfl);rw[hx];simp only[cFq,oB,JO.run,hgo hx,pC,cTq];rw[aC (by omega) (by omega)]))}
  · by_cases hin:M.inR (-1) 19 x.Frame=true
    {have hr:=M.inR_iff.1 hin;have hx:M.slotOk x=true:=(by unfold M.slotOk;rw[dF e,cFq,bA,decide_eq_true_eq,decide_eq_true_eq];omega);rw[hin,bT,cFq,dF e,cFq,hx];simp only[oB,JO.run,hgo hx,pC,cTq];rw[aC (by omega) (by omega)]}
    · have hn:¬(-1<=x.Frame/\x.Frame<=19):=λc=>hin (M.inR_iff.2 c);have hx:M.slotOk x=false:=(by(cases hh:M.slotOk x with|false=>rfl|true=>have:=iH hh;omega));rw[Bool.eq_false_iff.2 hin,hx];rfl) (λs _=>by
  simp only[hU,iT,h3];rw[dF (by omega),cFq]) p ht
theorem bFj{h:DHost}(hs:SmallH h)(hl:h.Guests.length=3):
 iter (iX h) (List.replicate 20 0,List.replicate 20 false,0)=some (.ret (bif h.Guests.all M.guestOk then .go (((M.slots h.Guests).foldl M.bump2 (List.replicate 20 0,List.replicate 20 false)).1,((M.slots h.Guests).foldl M.bump2 (List.replicate 20 0,List.replicate 20 false)).2)else .out false)):=by
 have key:=(qJ (xs:=h.Guests) (step:=iX h) (λ(s:List Int×List Bool) j=>(s.1,s.2,j)) M.guestOk (λs g=>g.Pages.foldl M.bump2 s) (λs=>JO.go (s.1,s.2)) (.out false) (λj s=>Tw (8*j) s) (λk g s a1 a2 a3 a4=>by
  have hg:=hs.all g a2;have:=hg.c.regs;have:=hg.pages;have:=hg.i;have:=hg.o;refine⟨?_,λhx=>?_⟩;{simp only[iX,iT,dT a1,cTq,a3];rw[aB ⟨by omega,a1⟩];(cases hlv:g.Live with|false=>have e:lY (DGuest.mk false (DCore.mk g.C.Regs g.C.Pc g.C.Root g.C.Vector g.C.Saved g.C.SavedUser g.C.Cause g.C.Bad g.C.Timer g.C.Waits g.C.User g.C.On g.C.Stopped) g.Pages g.In g.Out)=some (decide (g=M.noGuest)):=(by have:=bMz hlv;obtain⟨l,c,p,i,o⟩:=g;simp only at hlv;subst hlv;exact this);rw[bF,cTq,e,oB];have e2:M.guestOk g=decide (g=M.noGuest):=(by unfold M.guestOk;rw[hlv];rfl);rw[e2];by_cases hz:g=M.noGuest;{rw[dT hz,hz];simp only[bT,cFq,oB,JO.run,qQ,cTq,M.noGuest,List.foldl_nil];rw[aC (by omega) (by omega)]};{rw[dF hz];rfl}|true=>rw[bT,cFq];have e2:M.guestOk g=(M.coreOk g.C&&(decide (g.Pages.length=8)&&g.Pages.all M.slotOk)&&M.rowOk g.In&&M.rowOk g.Out):=(by unfold M.guestOk;rw[hlv];rfl);show Option.bind (Option.bind (jO g.C) _) _=_;rw[aTc (by omega),oB,e2];(cases hc:M.coreOk g.C with|false=>rfl|true=>rw[bT,cFq,Bool.true_and];by_cases hp:g.Pages.length=8;{rw[dT hp,show decide (((g.Pages.length:Nat):Int)=8)=true by simp;omega,bT,cFq,aFk (by omega),oB,aFk (by omega)];(cases hri:M.rowOk g.In with|false=>simp[JO.run]|true=>rw[bT,cFq,oB];(cases hro:M.rowOk g.Out with|false=>simp[JO.run]|true=>rw[bT,cFq,(aVk (by omega) a3 a4 (by omega)).1];(cases hpp:g.Pages.all M.slotOk with|false=>rfl|true=>simp only[cTq,oB,LO.val,JO.run,qQ,Bool.and_self];rw[aC (by omega) (by omega)])))};{rw[dF hp,show decide (((g.Pages.length:Nat):Int)=8)=false by simp;omega];rfl}))}
  · obtain⟨q1,q2⟩:=kE hx;have:=(aVk q2 a3 a4 (by omega)).2 q1;exact⟨this.tl.mono (by omega),this.len⟩) (λs _=>by
  simp only[iX];rw[dF (by omega),cFq]) (List.replicate 20 0,List.replicate 20 false) ⟨Tl.zero.mono (by omega),by simp⟩).1
 rw[nX]at key;exact key
theorem bJk{ss:List DSlot}(h:ss.all M.slotOk=true):((List.range 20).all λf=>!(decide (1<M.many ss (f:Int))&&ss.any λs=>decide (s.Frame=(f:Int))&&s.Write))=M.alone ss:=by
 apply dbe;simp only[M.alone,List.all_eq_true,List.mem_range,Bool.not_eq_true',Bool.and_eq_false_iff,decide_eq_false_iff_not,List.any_eq_false,bA,decide_eq_true_eq,Bool.or_eq_true,not_and];constructor
 · intro q s hs
   cases hw:s.Write with
   |false=>exact .inl rfl
   |true=>
    have hx:=List.all_eq_true.1 h s hs;have hr:=iH hx;have hf:s.Frame≠-1:=λe=>by unfold M.slotOk at hx;rw[dT e,hw]at hx;simp at hx
    rcases q s.Frame.toNat (by omega)with q|q;{rw[show((s.Frame.toNat:Nat):Int)=s.Frame by omega]at q;exact .inr (by omega)};{exact absurd hw (by simpa using q s hs (by omega))}
 {intro q f hf;by_cases hm:1<M.many ss (f:Int);{refine .inr λs hs e=>?_;rcases q s hs with q|q;{simp[q]};{rw[e]at q;omega}};{exact .inl hm}}
theorem aHw{h:DHost}(hs:SmallH h):jK h=some (M.hostOk h):=by
 have:=hs.words;unfold jK M.hostOk;rw[bEz (by omega),oB];by_cases hl:h.Words.length=160
 · rw[dT (p:=(h.Words.length:Int)<=160) (by omega),dT hl]
   cases M.wordsOk h.Words with
   |false=>rfl
   |true=>
    rw[Bool.true_and,bT,cFq,dT (p:=((h.Words.length:Nat):Int)=160) (by omega),bT,cFq];by_cases hg:h.Guests.length=3
    · rw[dT hg,dT (p:=((h.Guests.length:Nat):Int)=3) (by omega),bT,cFq]
      rw[show Int.toNat (20:Int)=20 from rfl,bFj hs hg];cases ha:h.Guests.all M.guestOk with
      |false=>rfl
      |true=>
       have hsl:=uR ha;simp only[cTq,oB,LO.val,JO.run,xF,Bool.true_and];rw[aOl]
       have key:=bDo (n:=20) (step:=lI ((M.slots h.Guests).foldl M.bump (List.replicate 20 0),((M.slots h.Guests).foldl M.bump2 (List.replicate 20 0,List.replicate 20 false)).2)) (λk=>k) (λf=>!(decide (1<M.many (M.slots h.Guests) (f:Int))&&(M.slots h.Guests).any λs=>decide (s.Frame=(f:Int))&&s.Write)) (JO.go ()) (.out false) (λi hi=>by
        have q1:=wB hsl hi;have q2:=rN hsl;obtain⟨q3,q4⟩:=aNf hi (p:=(List.replicate 20 0,List.replicate 20 false)) (by simp) hsl;unfold M.takers at q1 q2;simp only[lI,iT];have e0:decide ((1:Int)<(List.foldl M.bump (List.replicate 20 0) (M.slots h.Guests)).getD i default)=decide (1<M.many (M.slots h.Guests) (i:Int)):=(by rw[decide_eq_decide,q1];omega);rw[dT (p:=(i:Int)<20) (by omega),cTq,aB ⟨by omega,by omega⟩,e0,q4];rw[show(List.replicate 20 false).getD i default=false by rw[aW (by rw[List.length_replicate];omega),List.getElem_replicate],Bool.false_or];by_cases e:1<M.many (M.slots h.Guests) (i:Int)
        · rw[dT e,cTq,aB ⟨by omega,by omega⟩]
          cases(M.slots h.Guests).any λs=>decide (s.Frame=(i:Int))&&s.Write with
          |true=>rfl
          |false=>simp only[cFq,oB,JO.run,qG,Bool.and_false,bF,cTq];rw[aC (by omega) (by omega)]
        · rw[dF e];simp only[cFq,oB,JO.run,qG,Bool.false_and,bF,cTq];rw[aC (by omega) (by omega)]) (by
        simp only[lI];rfl)
       rw[key,bJk hsl];cases M.alone (M.slots h.Guests)<;>rfl
    {rw[dF hg,dF (p:=((h.Guests.length:Nat):Int)=3) (by omega)];rfl}
 {rw[dF hl,dF (p:=((h.Words.length:Nat):Int)=160) (by omega)];cases(decide ((h.Words.length:Int)<=160)&&M.wordsOk h.Words)<;>rfl}
structure HOk (h : DHost) : Prop where
 len:h.Words.length=160
 words:M.wordsOk h.Words=true
 three:h.Guests.length=3
 all:h.Guests.all M.guestOk=true
 alone:M.alone (M.slots h.Guests)=true
theorem fF{h:DHost}:M.hostOk h=true↔HOk h:=by unfold M.hostOk;simp only[bA,decide_eq_true_eq];exact⟨λ⟨⟨⟨a,b⟩,c,d⟩,e⟩=>⟨a,b,c,d,e⟩,λh=>⟨⟨⟨h.len,h.words⟩,h.three,h.all⟩,h.alone⟩⟩
namespace M
noncomputable def there (h:DHost)(g:Int):Bool:=hostOk h&&(inR 0 2 g&&(h.Guests.getD g.toNat default).Live)
end M
theorem nQ{h:DHost}{g:Int}:M.there h g=true↔HOk h/\0<=g/\g<=2/\(h.Guests.getD g.toNat default).Live=true:=by unfold M.there;rw[bA,bA,fF,M.inR_iff];exact⟨λ⟨a,⟨b,c⟩,d⟩=>⟨a,b,c,d⟩,λ⟨a,b,c,d⟩=>⟨a,⟨b,c⟩,d⟩⟩
theorem bCr{gs:List DGuest}{g:Int}(h3:gs.length=3):oA gs g=some (M.inR 0 2 g&&(gs.getD g.toNat default).Live):=by unfold oA M.inR;by_cases h0:0<=g;{by_cases h1:g<3;{rw[dT h0,dT h1,dT (p:=g<=2) (by omega),cTq,cTq,aB ⟨h0,by omega⟩];rfl};{rw[dT h0,dF h1,dF (p:=g<=2) (by omega)];rfl}};{rw[dF h0];rfl}
theorem rS{h:DHost}{g:Int}(hs:SmallH h):dZ h g=some (M.there h g):=by unfold dZ M.there;rw[aPo hs,oB];(cases hh:M.hostOk h with|false=>rfl|true=>have hk:=fF.1 hh;rw[cTq,bCr hk.three];rfl)
theorem bNm{h:DHost}{g:Int}(hs:SmallH h):qE h g=some (M.there h g):=by unfold qE M.there;rw[aHw hs,oB];(cases hh:M.hostOk h with|false=>rfl|true=>have hk:=fF.1 hh;have:=hk.three;rw[cTq,Bool.true_and,xB,oB];(cases hi:M.inR 0 2 g with|false=>rfl|true=>have:=M.inR_iff.1 hi;rw[cTq,Bool.true_and,aB ⟨by omega,by omega⟩]))
theorem aRb{T:Type}{xs ys:List T}(h:xs.length=ys.length):over xs 0 xs.length ys=ys:=by simp only[over,h,Nat.min_self,List.take_length,Nat.zero_add,List.take_zero,List.nil_append];rw[List.drop_eq_nil_of_le (by omega),List.append_nil]
theorem dY{xs:List Int}(h:xs.length<=1048576):cG xs=some xs:=by unfold cG;rw[aB ⟨by omega,by omega,by omega⟩,aRb (by simp)]
theorem bBe{c:DCore}(h:SmallC c):lV c=some c:=by have:=h.regs;unfold lV;rw[aB ⟨by simp;omega,by simp;omega⟩];rfl
theorem aAj{xs ys:List Int}{o k a:Nat}(hk:ys.length=k)(ho:o+k<=xs.length):(over xs o k ys).getD a default=if a<o then xs.getD a default else if a<o+k then ys.getD (a-o) default else xs.getD a default:=by simp only[over,hk,Nat.min_self,List.getD_eq_getElem?_getD];rw[List.take_of_length_le (l:=ys) (i:=k) (by omega)];by_cases h1:a<o;{rw[if_pos h1,List.getElem?_append_left (by simp;omega),List.getElem?_take_of_lt h1]};{rw[if_neg h1,List.getElem?_append_right (by simp;omega)];have e:(xs.take o).length=o:=(by simp;omega);rw[e];by_cases h2:a<o+k;{rw[if_pos h2,List.getElem?_append_left (by omega)]};{rw[if_neg h2,List.getElem?_append_right (by omega),List.getElem?_drop];congr 2;omega}}
theorem tZ{xs ys:List Int}{o k:Nat}(ho:o+k<=xs.length):(over xs o k ys).length=xs.length:=aDl ho
theorem tE{xs ys:List Int}{n:Nat}(h1:xs.length=n)(h2:ys.length=n)(h:∀a,a<n->xs.getD a default=ys.getD a default):xs=ys:=by apply List.ext_getElem (by omega);intro i q1 q2;have:=h i (by omega);rwa[aW q1,aW q2]at this
theorem aQi{xs:List Int}{o a:Nat}(ha:a<8):((xs.drop o).take 8).getD a default=xs.getD (o+a) default:=by simp only[List.getD_eq_getElem?_getD];rw[List.getElem?_take_of_lt ha,List.getElem?_drop]
theorem aHe{xs:List Int}{o:Nat}(h:o+8<=xs.length):((xs.drop o).take 8).length=8:=by simp;omega
namespace M
def word(ws:List Int)(ps:List DSlot)(a:Nat):Int:=if(ps.getD (a/8) default).Frame<0 then 0 else ws.getD ((ps.getD (a/8) default).Frame.toNat*8+a%8) default
def mem(ws:List Int)(ps:List DSlot):List Int:=(List.range 64).map (word ws ps)
def page(ws:List Int)(f:Nat):List Int:=(ws.drop (f*8)).take 8
noncomputable def hostView (h:DHost)(g:Int):DBare×Bool:=bif there h g then(⟨(h.Guests.getD g.toNat default).C,mem h.Words (h.Guests.getD g.toNat default).Pages,(h.Guests.getD g.toNat default).In,(h.Guests.getD g.toNat default).Out⟩,true)else(⟨noCore,[],[],[]⟩,false)
end M
theorem fE{ws:List Int}{ps:List DSlot}:(M.mem ws ps).length=64:=by simp[M.mem]
theorem iR{ws:List Int}{ps:List DSlot}{a:Nat}(ha:a<64):(M.mem ws ps).getD a default=M.word ws ps a:=by rw[aW (by rw[fE];exact ha)];simp[M.mem]
theorem aPs{xs:List Int}{f:Int}(h0:0<=f)(h1:f*8+8<=xs.length)(h2:f<=1000000):jL xs f=some (M.page xs f.toNat):=by unfold jL M.page;rw[aC (z:=f*8) (by omega) (by omega),aC (z:=f+1) (by omega) (by omega),aC (z:=(f+1)*8) (by omega) (by omega),aB ⟨by omega,by omega,by omega⟩];rw[show Int.toNat ((f+1)*8)-Int.toNat (f*8)=8 by omega,show Int.toNat (f*8)=f.toNat*8 by omega]
theorem aTy{xs:List Int}{f:Int}(h0:0<=f)(h1:f*8+8<=xs.length)(h2:f<=1000000):gV xs f=some (xs,(f.toNat*8,8)):=by unfold gV;rw[aC (z:=f*8) (by omega) (by omega),aC (z:=f+1) (by omega) (by omega),aC (z:=(f+1)*8) (by omega) (by omega),aB ⟨by omega,by omega,by omega⟩];rw[show Int.toNat ((f+1)*8)-Int.toNat (f*8)=8 by omega,show Int.toNat (f*8)=f.toNat*8 by omega]
theorem aCo{ps:List DSlot}(hp:ps.all M.slotOk=true){i:Nat}(hi:i<ps.length):-1<=(ps.getD i default).Frame/\(ps.getD i default).Frame<20:=iH (List.all_eq_true.1 hp _ (cB hi))
theorem bDz{ws:List Int}{ps:List DSlot}(hw:ws.length=160)(hl:ps.length=8)(hp:ps.all M.slotOk=true):iS ws ps=some (M.mem ws ps):=by
 unfold iS
 obtain⟨key,k2⟩:=aBv (n:=8) (step:=hZ ws ps) (λs j=>(s,j)) (λs i=>bif decide ((ps.getD i default).Frame=-1)then s else over s (i*8) 8 (M.page ws (ps.getD i default).Frame.toNat)) (λs=>JO.go s)
  (λk s=>s.length=64/\∀a,a<64->s.getD a default=if a<8*k then M.word ws ps a else 0) (λi s hi hs=>by
  have hr:=aCo hp (i:=i) (by omega);obtain⟨s1,s2⟩:=hs;simp only[hZ,iT];rw[dT (p:=(i:Int)<_) (by omega),cTq,aB ⟨by omega,by omega⟩];by_cases e:(ps.getD i default).Frame=-1;{rw[dT e];simp only[bT,cTq,cFq,oB,JO.run,iA];rw[aC (by omega) (by omega)];refine⟨rfl,s1,λa ha=>?_⟩;rw[s2 a ha];by_cases e1:a<8*i;{rw[if_pos e1,if_pos (by omega)]};{by_cases e2:a<8*(i+1);{rw[if_neg e1,if_pos e2];unfold M.word;rw[show a/8=i by omega,if_pos (by omega)]};{rw[if_neg e1,if_neg e2]}}}
  · rw[dF e,bF,cTq,aTy (by omega) (by omega) (by omega),oB,aB rfl,aB (by simp only[];omega),aPs (by omega) (by omega) (by omega)]
    simp only[oB,JO.run,iA,cFq,iT];rw[aC (by omega) (by omega)];have hpl:(M.page ws (ps.getD i default).Frame.toNat).length=8:=aHe (by omega);refine⟨rfl,by rw[tZ (by omega),s1],λa ha=>?_⟩;rw[aAj hpl (by omega),s2 a ha];by_cases e1:a<8*i;{rw[if_pos (by omega),if_pos e1,if_pos (by omega)]}
    · by_cases e2:a<8*(i+1)
      {rw[if_neg (by omega),if_pos (by omega),if_pos e2];unfold M.page M.word;rw[aQi (by omega),show a/8=i by omega,if_neg (by omega)];congr 1;omega}
      · rw[if_neg (by omega),if_neg (by omega),if_neg e1,if_neg e2]) (λs _=>by
  simp only[hZ];rw[dF (by omega),cFq]) (List.replicate 64 0) ⟨by simp,λa ha=>by rw[if_neg (by omega),aW (by rw[List.length_replicate];omega),List.getElem_replicate]⟩
 rw[show Int.toNat (64:Int)=64 from rfl,key];simp only[oB,LO.val,JO.run,kJ];congr 1;refine tE k2.1 fE λa ha=>?_;rw[k2.2 a ha,if_pos (by omega),iR ha]
theorem aCa{b:DBare}(hs:SmallB b):cL b=some b:=by unfold cL;rw[dY hs.c.regs,dY hs.mem,dY hs.i,dY hs.o];rfl
structure Live (h : DHost) (g : Int) (x : DGuest) : Prop where
 small:SmallG x
 ok:HOk h
 lo:0<=g
 hi:g<=2
 at_:h.Guests.getD g.toNat default=x
 live:x.Live=true
 core:M.coreOk x.C=true
 pages:x.Pages.length=8
 slots:x.Pages.all M.slotOk=true
 inn:M.rowOk x.In=true
 out:M.rowOk x.Out=true
theorem dC{h:DHost}{g:Int}(hs:SmallH h)(ht:M.there h g=true):Live h g (h.Guests.getD g.toNat default):=by obtain⟨hk,h0,h1,h2⟩:=nQ.1 ht;have:=hk.three;have hm:=cB (xs:=h.Guests) (k:=g.toNat) (by omega);have ho:=List.all_eq_true.1 hk.all _ hm;unfold M.guestOk at ho;rw[h2,cTq]at ho;simp only[bA,decide_eq_true_eq]at ho;exact⟨hs.all _ hm,hk,h0,h1,rfl,h2,ho.1.1.1,ho.1.1.2.1,ho.1.1.2.2,ho.1.2,ho.2⟩
theorem bFi{h:DHost}{g:Int}{x:DGuest}(l:Live h g x):qD h g=some ⟨x.C,M.mem h.Words x.Pages,x.In,x.Out⟩:=by have:=l.ok.three;have:=l.lo;have:=l.hi;unfold qD;rw[aB ⟨l.lo,by omega⟩,l.at_,bDz l.ok.len l.pages l.slots];rfl
theorem aKm{h:DHost}{g:Int}(hs:SmallH h):kA h g=some (M.hostView h g):=by unfold kA M.hostView;rw[rS hs,oB];(cases ht:M.there h g with|false=>rfl|true=>have l:=dC hs ht;rw[bT,cFq,bFi l,oB,aCa ⟨l.small.c,by simp[fE],l.small.i,l.small.o⟩];rfl)
namespace M
def freeStep(ss:List DSlot)(s:List Int)(i:Nat):List Int:=bif decide (many ss (i:Int)=0)then s++[(i:Int)]else s
def free(ss:List DSlot):List Int:=(List.range 20).foldl (freeStep ss) []
noncomputable def hostFree (h:DHost):List Int:=bif hostOk h then free (slots h.Guests)else[]
end M
theorem nT{ss:List DSlot}:M.free ss=((List.range 20).filter λ(i:Nat)=>decide (M.many ss (i:Int)=0)).map λ(i:Nat)=>(i:Int):=by
 have e:∀(xs:List Nat) (s:List Int),xs.foldl (M.freeStep ss) s=s++(xs.filter λ(i:Nat)=>decide (M.many ss (i:Int)=0)).map λ(i:Nat)=>(i:Int):=by
  intro xs;induction xs with
  |nil=>intro s;simp
  |cons x xs ih=>intro s;rw[List.foldl_cons,ih,List.filter_cons];unfold M.freeStep;cases decide (M.many ss (x:Int)=0)<;>simp
 unfold M.free;rw[e];simp
theorem aEe{ss:List DSlot}{s:List Int}{i n:Nat}(h:s.length<=n):(M.freeStep ss s i).length<=n+1:=by unfold M.freeStep;cases decide (M.many ss (i:Int)=0)<;>simp<;>omega
theorem bHp{ss:List DSlot}:(M.free ss).length<=20:=by rw[nT,List.length_map];have:=List.length_filter_le (λ(i:Nat)=>decide (M.many ss (i:Int)=0)) (List.range 20);simpa using this
theorem bIy{h:DHost}(h3:h.Guests.length=3)(hall:h.Guests.all M.guestOk=true):lT h=some (M.takers (M.slots h.Guests)):=by
 have hin:∀(k:Nat) (g:DGuest) (xs:List Int) (h1:(k:Int)<(h.Guests.length:Int)) (h2:g∈h.Guests) (h3:h.Guests.getD k default=g) (h4:Tl (8*k) xs),
  iter (iZ h (xs,(k:Int))) (xs,0)=some (.ret (.go (g.Pages.foldl M.bump xs)))/\Tl (8*k+g.Pages.length) (g.Pages.foldl M.bump xs):=by
  intro k g xs h1 h2 h3 h4;obtain⟨g1,g2⟩:=kE (List.all_eq_true.1 hall g h2)
  exact nA (xs:=g.Pages) (step:=iZ h (xs,(k:Int))) (λs j=>(s,j)) M.bump (λs=> .go s) (λj s=>Tl (8*k+j) s) (λj x s a1 a2 a3 a4=>by
   have hx:=List.all_eq_true.1 g1 x a2;have hr:=iH hx;have hl:=a4.len;refine⟨?_,a4.bump hx⟩;simp only[iZ,iT,h3,dT a1,cTq];rw[aB ⟨by omega,h1⟩,aB ⟨by omega,h1⟩,aB ⟨by omega,a1⟩,a3];unfold M.bump;by_cases e:x.Frame=-1;{rw[dF (p:=(0:Int)<=x.Frame) (by omega),dT e];simp only[cTq,cFq,oB,JO.run,qP];rw[aC (by omega) (by omega)]}
   · have q1:=a4.low x.Frame.toNat (by omega);have q2:=a4.top x.Frame.toNat (by omega);rw[dT (p:=(0:Int)<=x.Frame) (by omega),dF e,cTq,aB ⟨by omega,by omega⟩,aB ⟨by omega,by omega⟩,aC (by omega) (by omega)];simp only[cTq,cFq,oB,JO.run,qP];rw[aC (by omega) (by omega)]) (λs _=>by
   simp only[iZ,iT,h3];rw[aB ⟨by omega,h1⟩,dF (by omega),cFq]) xs h4
 have key:=(nA (xs:=h.Guests) (step:=lN h) (λs j=>(s,j)) (λs g=>g.Pages.foldl M.bump s) (λs=> .go s) (λk s=>Tl (8*k) s) (λk g s a1 a2 a3 a4=>by
  obtain⟨b1,b2⟩:=hin k g s a1 a2 a3 a4;refine⟨?_,b2.mono (by have:=(kE (List.all_eq_true.1 hall g a2)).2;omega)⟩;simp only[lN,dT a1,cTq];rw[b1];simp only[oB,LO.val,JO.run,wS];rw[aC (by omega) (by omega)]) (λs _=>by
  simp only[lN];rw[dF (by omega),cFq]) (List.replicate 20 0) (Tl.zero.mono (by omega))).1
 unfold lT;rw[show Int.toNat (20:Int)=20 from rfl,key];simp only[oB,LO.val,JO.run,xM];rw[nX];rfl
theorem bOh{h:DHost}(hs:SmallH h)(hk:HOk h):lT h=some (M.takers (M.slots h.Guests)):=bIy hk.three hk.all
theorem aNi{ss:List DSlot}(hss:ss.all M.slotOk=true){i:Nat}(hi:i<20){s:List Int}(hl:s.length<=i){Y:Type}:
 (grd ((0:Int)<=(i:Int)/\(i:Int)<((List.length (M.takers ss):Nat):Int)) (cond (decide ((List.getD (M.takers ss) i default)=(0:Int))) (grd ((List.length s+List.length ([(i:Int)]:List Int))*8<=2^47/\List.length s+List.length ([(i:Int)]:List Int)<=2^47) (some (JO.go (s++([(i:Int)]:List Int))))) (some (JO.go s))):Option (JO (List Int) Y))=some (.go (M.freeStep ss s i)):=by
 have hl2:=rN hss;have e0:decide ((M.takers ss).getD i default=0)=decide (M.many ss (i:Int)=0):=(by rw[decide_eq_decide,wB hss hi];omega);rw[aB ⟨by omega,by omega⟩,e0];unfold M.freeStep;(cases decide (M.many ss (i:Int)=0)with|true=>rw[cTq,cTq,aB ⟨by simp;omega,by simp;omega⟩]|false=>rfl)
theorem aSk{gs:List DGuest}(hl:gs.length<=1048576)(h:gs.all M.guestOk=true):kL gs=some (M.free (M.slots gs)):=by
 have hss:=uR h;have hl2:=rN hss;unfold kL;rw[aIt hl h,oB]
 have key:=(aBv (n:=20) (step:=iF (M.takers (M.slots gs))) (λs j=>(s,j)) (M.freeStep (M.slots gs)) (λs=>JO.go s) (λi s=>s.length<=i) (λi s hi hs=>by
  refine⟨?_,aEe hs⟩;simp only[iF,iT];rw[dT (p:=(i:Int)<_) (by omega),cTq,aNi hss hi hs,oB];simp only[JO.run,sG];rw[aC (by omega) (by omega)]) (λs _=>by
  simp only[iF];rw[dF (by omega),cFq]) [] (by simp)).1
 rw[key];rfl
theorem bAf{h:DHost}(hs:SmallH h):mQ h=some (M.hostFree h):=by
 unfold mQ M.hostFree;rw[aHw hs,oB];cases hh:M.hostOk h with
 |false=>rfl
 |true=>
  have hk:=fF.1 hh;have hss:=uR hk.all;rw[bT,cFq,bOh hs hk,oB]
  have key:=(aBv (n:=20) (step:=jQ (M.takers (M.slots h.Guests))) (λs j=>(s,j)) (M.freeStep (M.slots h.Guests)) (λs=>JO.go s) (λi s=>s.length<=i) (λi s hi hs=>by
   refine⟨?_,aEe hs⟩;simp only[jQ,iT];rw[dT (p:=(i:Int)<20) (by omega),cTq,aNi hss hi hs,oB];simp only[JO.run,uY];rw[aC (by omega) (by omega)]) (λs _=>by
   simp only[jQ];rfl) [] (by simp)).1
  rw[key];rfl
section
variable {T : Type} [Inhabited T] {f : T → T} {k : Nat} {xs : List T}
def up{T:Type}(f:T->T)(k:Nat)(xs:List T):List T:=xs.mapIdx λi x=>if i<k then f x else x
theorem aKc{i:Nat}:(up f k xs)[i]? =(xs[i]?).map λx=>if i<k then f x else x:=by simp[up]
theorem aDc:(up f k xs).length=xs.length:=by simp[up]
theorem aFn:up f 0 xs=xs:=by apply List.ext_getElem?;intro i;rw[aKc];cases xs[i]? <;>simp
theorem aIz(h:xs.length<=k):up f k xs=xs.map f:=by apply List.ext_getElem?;intro i;rw[aKc,List.getElem?_map];by_cases e:i<xs.length;{rw[List.getElem?_eq_getElem e];simp only[Option.map_some,if_pos (show i<k by omega)]};{rw[List.getElem?_eq_none (by omega)];rfl}
theorem aKv(h:k<xs.length):(up f k xs).set k (f (xs.getD k default))=up f (k+1) xs:=by apply List.ext_getElem?;intro i;rw[List.getElem?_set,aKc,aKc];by_cases e:k=i;{subst e;rw[if_pos rfl,if_pos (by rw[aDc];exact h),List.getElem?_eq_getElem h,aW h];simp};{rw[if_neg e];(cases xs[i]? with|none=>rfl|some x=>simp only[Option.map_some];by_cases q:i<k;{rw[if_pos q,if_pos (by omega)]};{rw[if_neg q,if_neg (by omega)]})}
theorem bIv{i:Nat}(h:i<xs.length):(up f k xs).getD i default=if i<k then f (xs.getD i default)else xs.getD i default:=by rw[List.getD_eq_getElem?_getD,aKc,List.getElem?_eq_getElem h,aW h];rfl
theorem aOy(h:k<xs.length):(up f k xs).getD k default=xs.getD k default:=by rw[bIv h,if_neg (by omega)]
end
namespace M
def mapG(f:DSlot->DSlot)(g:DGuest):DGuest:=⟨g.Live,g.C,g.Pages.map f,g.In,g.Out⟩
def upG(f:DSlot->DSlot)(j:Nat)(g:DGuest):DGuest:=⟨g.Live,g.C,up f j g.Pages,g.In,g.Out⟩
end M
section
variable {f : DSlot → DSlot} {k j : Nat} {gs : List DGuest}
theorem bGj{g:DGuest}:M.upG f 0 g=g:=by unfold M.upG;rw[aFn]
theorem bJf{g:DGuest}(h:g.Pages.length<=j):M.upG f j g=M.mapG f g:=by unfold M.upG M.mapG;rw[aIz h]
end
theorem bFv{ss:List DSlot}{q:Int}:0<M.many ss q↔∃s∈ss,s.Frame=q:=by unfold M.many;rw[List.countP_pos_iff];simp
theorem bFk{T U:Type}[Inhabited T][Inhabited U]{f:T->U}{xs:List T}{j:Nat}(h:j<xs.length):(xs.map f).getD j default=f (xs.getD j default):=by rw[aW (by rw[List.length_map];exact h),aW h,List.getElem_map]
theorem bCn {T:Type} [Inhabited T] {xs ys:List T} {step:List T×Int->Option (LO (List T×Int) (JO (List T) (List T)))} (hl:ys.length=xs.length)
 (hs:∀(k:Nat) (zs:List T),k<xs.length->zs.length=xs.length->step (zs,(k:Int))=some (.next (zs.set k (xs.getD k default),(k:Int)+1)))
 (he:∀zs:List T,zs.length=xs.length->step (zs,(xs.length:Int))=some (.ret (.go zs))):iter step (ys,0)=some (.ret (.go xs)):=by
 have key:∀(n k:Nat) (zs:List T),k+n=xs.length->zs.length=xs.length->(∀i,i<k->zs[i]? =xs[i]?)->iter step (zs,(k:Int))=some (.ret (.go xs)):=by
  intro n;induction n with
  |zero=>intro k zs hk hz h;have e:zs=xs:=(by apply List.ext_getElem?;intro i;by_cases hi:i<k;{exact h i hi};{rw[List.getElem?_eq_none (by omega),List.getElem?_eq_none (by omega)]});have hk:k=xs.length:=(by omega);rw[cH,hk,he zs hz,e]
  |succ n ih=>
   intro k zs hk hz h;rw[cH,hs k zs (by omega) hz]
   have:=ih (k+1) (zs.set k (xs.getD k default)) (by omega) (by simpa using hz) (λi hi=>by
    rw[List.getElem?_set];by_cases e:k=i;{subst e;rw[if_pos rfl,if_pos (by omega),aW (by omega),List.getElem?_eq_getElem (by omega)]}
    · rw[if_neg e];exact h i (by omega))
   simpa using this
 simpa using key xs.length 0 ys (by omega) hl (by simp)
def bIh{T:Type}(m:T->Int->T×Int):List T->Int->List T×Int
 |[],k=>([],k)
 |x::xs,k=>((m x k).1::(bIh m xs (m x k).2).1,(bIh m xs (m x k).2).2)
theorem tJ{xs:List DSlot}(h:xs.length<=1048576):eV xs=some xs:=by unfold eV;rw[aB ⟨by omega,by omega,by omega⟩,aRb (by simp)]
theorem aWt{g:DGuest}(h:M.guestOk g=true)(hl:g.Live=false):g=M.noGuest:=by unfold M.guestOk at h;rw[hl,cFq,decide_eq_true_eq]at h;exact h
theorem zS{g:DGuest}(hs:SmallG g)(h:M.guestOk g=true):dL g=some g:=by unfold dL;(cases hl:g.Live with|false=>have:=aWt h hl;subst this;rfl|true=>rw[bT,cFq,dY hs.c.regs,tJ hs.pages,dY hs.i,dY hs.o];simp only[oB];rw[<-hl])
theorem aXn{g:DGuest}(hs:SmallG g)(h:M.guestOk g=true):fX g=some g:=by have:=hs.pages;have:=hs.i;have:=hs.o;unfold fX;(cases hl:g.Live with|false=>have:=aWt h hl;subst this;rfl|true=>rw[bT,cFq,bBe hs.c,oB,aB ⟨by omega,by omega⟩,aB ⟨by omega,by omega⟩,aB ⟨by omega,by omega⟩,<-hl])
theorem aKf{gs:List DGuest}(hl:gs.length<=1048576)(hs:∀g∈gs,SmallG g)(h:gs.all M.guestOk=true):jG gs=some gs:=by
 unfold jG;rw[aB ⟨by omega,by omega,by omega⟩]
 have key:=bCn (xs:=gs) (ys:=List.replicate (Int.toNat (gs.length:Int)) M.noGuest) (step:=eH gs) (by simp) (λk zs hk hz=>by
  have h1:(k:Int)<(gs.length:Int):=(by omega);simp only[eH,dT h1,cTq];rw[aB ⟨by omega,h1⟩,iT];show Option.bind (dL (gs.getD k default)) _=_;rw[zS (hs _ (cB hk)) (List.all_eq_true.1 h _ (cB hk)),oB,aB ⟨by omega,by omega⟩,aC (by omega) (by omega)]) (λzs hz=>by
  simp only[eH];rw[dF (by omega),cFq])
 show Option.bind (Option.bind (iter (eH gs) (List.replicate (Int.toNat (gs.length:Int)) M.noGuest,0)) LO.val) _=_;rw[key];rfl
theorem bEj{h:DHost}(hs:SmallH h)(hg:h.Guests.all M.guestOk=true):mA h=some h:=by
 have:=hs.words;have:=hs.guests;unfold mA;rw[aB ⟨by simp;omega,by simp;omega⟩]
 have key:=(nA (xs:=h.Guests) (step:=lL h) (λs j=>(s,j)) (λs g=>s++[g]) (λs=>JO.go s) (λj s=>s.length=j) (λk g s a1 a2 a3 a4=>by
  refine⟨?_,by simp;omega⟩;simp only[lL,dT a1,cTq,iT,a3];rw[aB ⟨by omega,a1⟩];show Option.bind (fX g) _=_;rw[aXn (hs.all g a2) (List.all_eq_true.1 hg g a2),oB,aB ⟨by omega,by omega⟩,aC (by omega) (by omega)]) (λs _=>by
  simp only[lL];rw[dF (by omega),cFq]) [] rfl).1
 rw[key]
 have e:∀(xs ys:List DGuest),xs.foldl (λs g=>s++[g]) ys=ys++xs:=by
  intro xs;induction xs with
  |nil=>intro ys;simp
  |cons x xs ih=>intro ys;rw[List.foldl_cons,ih];simp
 rw[e];rfl
namespace M
end M
namespace M
def zeros(xs:List Int):Bool:=(List.range 8).all λk=>decide (xs.getD k default=0)
def used(mem:List Int):Nat->Nat
 |0=>0
 |p+1=>used mem p+(bif zeros (page mem p)then 0 else 1)
def slotFor(mem free:List Int)(p:Nat):DSlot:=bif zeros (page mem p)then⟨-1,false,false⟩else⟨free.getD (used mem p) default,true,false⟩
def slotsFor(mem free:List Int)(n:Nat):List DSlot:=(List.range n).map (slotFor mem free)
def wordsFor(mem free:List Int)(ws:List Int):Nat->List Int
 |0=>ws
 |p+1=>bif zeros (page mem p)then wordsFor mem free ws p else over (wordsFor mem free ws p) ((free.getD (used mem p) default).toNat*8) 8 (page mem p)
noncomputable def gone (gs:List DGuest):Int:=bif (gs.getD 0 default).Live then(bif (gs.getD 1 default).Live then(bif (gs.getD 2 default).Live then-1 else 2)else 1)else 0
noncomputable def aDq (h:DHost)(b:DBare)(a:Nat):DHost:=⟨wordsFor b.Mem (free (slots h.Guests)) h.Words 8,h.Guests.set a ⟨true,b.C,slotsFor b.Mem (free (slots h.Guests)) 8,b.In,b.Out⟩⟩
noncomputable def booted (h:DHost)(b:DBare):DHost:=⟨wordsFor b.Mem (free (slots h.Guests)) h.Words 8,h.Guests.set (gone h.Guests).toNat ⟨true,b.C,slotsFor b.Mem (free (slots h.Guests)) 8,b.In,b.Out⟩⟩
noncomputable def hostBoot (h:DHost)(b:DBare):DHost×Int×Bool:=bif hostOk h&&bareOk b&&(!decide (gone h.Guests=-1)&&decide (used b.Mem 8<=(free (slots h.Guests)).length))then(booted h b,gone h.Guests,true)else(⟨[],[]⟩,-1,false)
end M
theorem bBh{mem:List Int}{p q:Nat}(h:p<=q):M.used mem p<=M.used mem q:=by
 induction h with
 |refl=>exact Nat.le_refl _
 |step _ ih=>exact Nat.le_trans ih (by rw[M.used];omega)
theorem aKp{mem:List Int}{L n:Nat}:((List.range n).all λp=>M.zeros (M.page mem p)||decide (M.used mem p<L))=decide (M.used mem n<=L):=by
 apply dbe;simp only[List.all_eq_true,List.mem_range,Bool.or_eq_true,decide_eq_true_eq];constructor
 · intro h
   induction n with
   |zero=>simp[M.used]
   |succ n ih=>have h1:=ih λp hp=>h p (by omega);rcases h n (by omega)with h2|h2;{rw[M.used,h2];exact h1};{rw[M.used];cases M.zeros (M.page mem n)<;>simp<;>omega}
 {intro h p hp;(cases hz:M.zeros (M.page mem p)with|true=>exact .inl rfl|false=>have:=bBh (mem:=mem) (show p+1<=n by omega);rw[M.used,hz]at this;simp only[cFq]at this;exact .inr (by omega))}
theorem aKn{ss:List DSlot}{i:Nat}(hi:i<(M.free ss).length):0<=(M.free ss).getD i default/\(M.free ss).getD i default<20:=by have hm:=cB hi;rw[nT]at hm;obtain⟨j,hj,e⟩:=List.mem_map.1 hm;have:=(List.mem_filter.1 hj).1;rw[List.mem_range]at this;rw[nT,<-e];omega
theorem bIp{xs:List Int}{p:Nat}(h:p*8+8<=xs.length):(M.page xs p).length=8:=aHe h
theorem xL{mem ws:List Int}{ss:List DSlot}(hw:ws.length=160):∀{p:Nat},p<=8->M.used mem p<=(M.free ss).length->(M.wordsFor mem (M.free ss) ws p).length=160
 |0,_,_=>hw
 |p+1,h8,hu=>by have eu:M.used mem (p+1)=M.used mem p+(bif M.zeros (M.page mem p)then 0 else 1):=rfl;have ih:=xL (mem:=mem) (ss:=ss) hw (p:=p) (by omega) (by omega);unfold M.wordsFor;(cases hz:M.zeros (M.page mem p)with|true=>rw[cTq];exact ih|false=>rw[hz]at eu;simp only[cFq]at eu;have:=aKn (ss:=ss) (i:=M.used mem p) (by omega);rw[cFq,tZ (by omega),ih])
theorem aUj{gs:List DGuest}(h:gs.length=3):lE gs=some (M.gone gs):=by
 unfold lE;have st:∀i:Nat,i<3->fM gs (i:Int)=some (bif (gs.getD i default).Live then .next ((i+1:Nat):Int)else .ret (.out (i:Int))):=λi hi=>by simp only[fM,iT];rw[dT (p:=(i:Int)<_) (by omega),cTq,aB ⟨by omega,by omega⟩,aC (by omega) (by omega)];cases(gs.getD i default).Live<;>rfl
 have s3:fM gs ((3:Nat):Int)=some (.ret (.go ())):=(by simp only[fM];rw[dF (by omega),cFq]);have s0:=st 0 (by omega);have s1:=st 1 (by omega);have s2:=st 2 (by omega);unfold M.gone;rw[show(0:Int)=((0:Nat):Int)from rfl,cH,s0];(cases(gs.getD 0 default).Live with|false=>rfl|true=>simp only[cTq];rw[show(0+1:Nat)=1 from rfl,cH,s1];(cases(gs.getD 1 default).Live with|false=>rfl|true=>simp only[cTq];rw[show(1+1:Nat)=2 from rfl,cH,s2];(cases(gs.getD 2 default).Live with|false=>rfl|true=>simp only[cTq];rw[show(2+1:Nat)=3 from rfl,cH,s3];rfl)))
theorem aAd(gs:List DGuest):-1<=M.gone gs/\M.gone gs<=2:=by unfold M.gone;cases(gs.getD 0 default).Live<;>cases(gs.getD 1 default).Live<;>cases(gs.getD 2 default).Live<;>simp
theorem bDs{b:DBare}(h:M.bareOk b=true):b.Mem.length=64:=by unfold M.bareOk at h;simp only[bA]at h;exact aCp h.1.1.2
namespace M
def keep(s:DSlot):DSlot:=⟨s.Frame,false,s.Dirty⟩
def fresh(s:DSlot):DSlot:=⟨s.Frame,false,false⟩
def cloned(gs:List DGuest)(g a:Nat):List DGuest:=(gs.set g (mapG keep (gs.getD g default))).set a (mapG fresh (gs.getD g default))
noncomputable def hostClone (h:DHost)(g:Int):DHost×Int×Bool:=bif there h g&&decide (gone h.Guests≠-1)then(⟨h.Words,cloned h.Guests g.toNat (gone h.Guests).toNat⟩,gone h.Guests,true)else(⟨[],[]⟩,-1,false)
end M
theorem aAt{ss tt:List DSlot}{f:Int}:M.many (ss++tt) f=M.many ss f+M.many tt f:=by simp only[M.many,List.countP_append]
theorem vT{x:DGuest}{gs:List DGuest}:M.slots (x::gs)=x.Pages++M.slots gs:=by simp only[M.slots,List.flatMap_cons]
theorem uN{y:DGuest}{f:Int}:∀{gs:List DGuest} {i:Nat},i<gs.length->M.many (M.slots (gs.set i y)) f+M.many (gs.getD i default).Pages f=M.many (M.slots gs) f+M.many y.Pages f
 |[],i,h=>by simp at h
 |g::gs,0,_=>by rw[List.set_cons_zero,vT,vT,aAt,aAt];show M.many y.Pages f+M.many (M.slots gs) f+M.many g.Pages f=_;omega
 |g::gs,i+1,h=>by have ih:=uN (y:=y) (f:=f) (gs:=gs) (i:=i) (by simpa using h);rw[List.set_cons_succ,vT,vT,aAt,aAt];show M.many g.Pages f+M.many (M.slots (gs.set i y)) f+M.many (gs.getD i default).Pages f=_;omega
theorem aTn{gs:List DGuest}{i:Nat}{f:Int}(h:i<gs.length):M.many (gs.getD i default).Pages f<=M.many (M.slots gs) f:=by have:=uN (y:=M.noGuest) (f:=f) h;have e:M.many M.noGuest.Pages f=0:=rfl;omega
theorem bHo{gs:List DGuest}{i j:Nat}{f:Int}(hi:i<gs.length)(hj:j<gs.length)(h:i≠j):M.many (gs.getD i default).Pages f+M.many (gs.getD j default).Pages f<=M.many (M.slots gs) f:=by have a:=uN (y:=M.noGuest) (f:=f) hi;have b:=aTn (gs:=gs.set i M.noGuest) (i:=j) (f:=f) (by rw[lS];exact hj);have e:(gs.set i M.noGuest).getD j default=gs.getD j default:=(by rw[aW (by rw[lS];exact hj),List.getElem_set_ne h,<-aW]);rw[e]at b;have e0:M.many M.noGuest.Pages f=0:=rfl;omega
theorem aDm{gs:List DGuest}{i:Nat}{y:DGuest}(h:i<gs.length):(gs.set i y).getD i default=y:=by rw[aW (by rw[lS];exact h),List.getElem_set_self]
theorem aFi{gs:List DGuest}{i j:Nat}{y:DGuest}(hj:j<gs.length)(h:i≠j):(gs.set i y).getD j default=gs.getD j default:=by rw[aW (by rw[lS];exact hj),List.getElem_set_ne h,<-aW]
theorem aOi{f:Int}:∀{ps:List DSlot},M.many (ps.map M.keep) f=M.many ps f
 |[]=>rfl
 |s::ps=>by rw[List.map_cons,jX,jX,aOi];rfl
theorem aJz{f:Int}:∀{ps:List DSlot},M.many (ps.map M.fresh) f=M.many ps f
 |[]=>rfl
 |s::ps=>by rw[List.map_cons,jX,jX,aJz];rfl
theorem aNj{gs:List DGuest}:M.alone (M.slots gs)=true↔∀i,i<gs.length->∀s∈(gs.getD i default).Pages,s.Write=true->M.many (M.slots gs) s.Frame<=1:=by unfold M.alone;rw[List.all_eq_true];constructor;{intro h i hi s hs hw;have:=h s (List.mem_flatMap.2 ⟨_,cB hi,hs⟩);rw[hw]at this;exact of_decide_eq_true this};{intro h s hs;obtain⟨x,hx,hs⟩:=List.mem_flatMap.1 hs;obtain⟨i,hi,e⟩:=List.getElem_of_mem hx;(cases hw:s.Write with|false=>rfl|true=>exact dT (h i hi s (by rw[aW hi,e];exact hs) hw))}
theorem aLi{x:DGuest}(hl:x.Live=true):M.guestOk x=true↔M.coreOk x.C=true/\x.Pages.length=8/\x.Pages.all M.slotOk=true/\M.rowOk x.In=true/\M.rowOk x.Out=true:=by
 unfold M.guestOk;rw[hl,cTq];simp only[bA,decide_eq_true_eq];constructor
 · rintro⟨⟨⟨a,b,c⟩,d⟩,e⟩;exact⟨a,b,c,d,e⟩
 · rintro⟨a,b,c,d,e⟩;exact⟨⟨⟨a,b,c⟩,d⟩,e⟩
theorem bAd{x:DGuest}(hl:x.Live=false)(h:M.guestOk x=true):x=M.noGuest:=by unfold M.guestOk at h;rw[hl,cFq,decide_eq_true_eq]at h;exact h
theorem aHp{gs:List DGuest}(h:gs.all M.guestOk=true){i:Nat}(hi:i<gs.length):M.guestOk (gs.getD i default)=true:=List.all_eq_true.1 h _ (cB hi)
theorem aXc{gs:List DGuest}(h:gs.all M.guestOk=true){i:Nat}{y:DGuest}(hy:M.guestOk y=true):(gs.set i y).all M.guestOk=true:=by rw[List.all_eq_true];intro z hz;rcases List.mem_or_eq_of_mem_set hz with hz|rfl;{exact List.all_eq_true.1 h z hz};{exact hy}
theorem aUw{s:DSlot}(h:M.slotOk s=true):M.slotOk (M.keep s)=true:=by unfold M.slotOk M.keep at*;by_cases e:s.Frame=-1;{rw[dT e,cTq]at h ⊢;rw[bA]at h;rw[h.2];rfl};{rw[dF e,cFq]at h ⊢;exact h}
theorem bGs{s:DSlot}(h:M.slotOk s=true):M.slotOk (M.fresh s)=true:=by unfold M.slotOk M.fresh at*;by_cases e:s.Frame=-1;{rw[dT e];rfl};{rw[dF e,cFq]at h ⊢;exact h}
theorem bBw{f:DSlot->DSlot}(hf:∀{s},M.slotOk s=true->M.slotOk (f s)=true){ps:List DSlot}(h:ps.all M.slotOk=true):(ps.map f).all M.slotOk=true:=by rw[List.all_eq_true]at*;intro s hs;obtain⟨t,ht,rfl⟩:=List.mem_map.1 hs;exact hf (h t ht)
section
variable {h : DHost} {g : Int} {x : DGuest}
theorem bBl{gs:List DGuest}(hn:M.gone gs≠-1):∃a:Nat,a<3/\M.gone gs=(a:Int)/\(gs.getD a default).Live=false:=by unfold M.gone at hn ⊢;(cases h0:(gs.getD 0 default).Live with|false=>exact⟨0,by omega,rfl,h0⟩|true=>(cases h1:(gs.getD 1 default).Live with|false=>exact⟨1,by omega,rfl,h1⟩|true=>(cases h2:(gs.getD 2 default).Live with|false=>exact⟨2,by omega,rfl,h2⟩|true=>rw[h0,h1,h2]at hn;exact absurd rfl hn)))
structure Cln (h : DHost) (g : Int) (x : DGuest) (a : Nat) : Prop where
 live:Live h g x
 lt:a<3
 ne:g.toNat≠a
 none:h.Guests.getD a default=M.noGuest
theorem aFz:(M.hostClone h g=(⟨[],[]⟩,-1,false))\/((SmallH h)->∃x a,Cln h g x a/\M.hostClone h g=(⟨h.Words,M.cloned h.Guests g.toNat a⟩,(a:Int),true)):=by unfold M.hostClone;(cases ht:M.there h g with|false=>exact .inl rfl|true=>by_cases hn:M.gone h.Guests=-1;{left;rw[dF (by simp[hn])];rfl};{right;intro hs;obtain⟨a,a3,ea,hd⟩:=bBl hn;have l:=dC hs ht;have h3:=l.ok.three;refine⟨_,a,⟨l,a3,?_,?_⟩,?_⟩;{intro e;have:=l.live;rw[e,hd]at this;cases this};{exact bAd hd (aHp l.ok.all (by omega))};{rw[dT hn,ea,iT];rfl}})
variable {a : Nat}
theorem Cln.at_g(c:Cln h g x a):(M.cloned h.Guests g.toNat a).getD g.toNat default=M.mapG M.keep x:=by have h3:=c.live.ok.three;have:=c.live.lo;have:=c.live.hi;unfold M.cloned;rw[aFi (by rw[lS];omega) (λe=>c.ne e.symm),aDm (by omega),c.live.at_]
theorem Cln.at_a(c:Cln h g x a):(M.cloned h.Guests g.toNat a).getD a default=M.mapG M.fresh x:=by have h3:=c.live.ok.three;have:=c.lt;unfold M.cloned;rw[aDm (by rw[lS];omega),c.live.at_]
theorem Cln.at_k(c:Cln h g x a){k:Nat}(h3k:k<3)(hg:k≠g.toNat)(ha:k≠a):(M.cloned h.Guests g.toNat a).getD k default=h.Guests.getD k default:=by have h3:=c.live.ok.three;unfold M.cloned;rw[aFi (by rw[lS];omega) (λe=>ha e.symm),aFi (by omega) (λe=>hg e.symm)]
theorem Cln.many(c:Cln h g x a){f:Int}:M.many (M.slots (M.cloned h.Guests g.toNat a)) f=M.many (M.slots h.Guests) f+M.many x.Pages f:=by have h3:=c.live.ok.three;have:=c.live.lo;have:=c.live.hi;have:=c.lt;have e1:=uN (y:=M.mapG M.keep (h.Guests.getD g.toNat default)) (f:=f) (gs:=h.Guests) (i:=g.toNat) (by omega);have e2:=uN (y:=M.mapG M.fresh (h.Guests.getD g.toNat default)) (f:=f) (gs:=h.Guests.set g.toNat (M.mapG M.keep (h.Guests.getD g.toNat default))) (i:=a) (by rw[lS];omega);rw[aFi (by omega) c.ne,c.none]at e2;rw[c.live.at_]at e1 e2;have k1:M.many (M.mapG M.keep x).Pages f=M.many x.Pages f:=aOi;have k2:M.many (M.mapG M.fresh x).Pages f=M.many x.Pages f:=aJz;have k0:M.many M.noGuest.Pages f=0:=rfl;unfold M.cloned;rw[c.live.at_];omega
theorem Cln.hostOk(c:Cln h g x a):M.hostOk ⟨h.Words,M.cloned h.Guests g.toNat a⟩=true:=by
 have k:=c.live.ok;have h3:=k.three;have:=c.live.lo;have:=c.live.hi;have:=c.lt;have hlen:(M.cloned h.Guests g.toNat a).length=3:=(by unfold M.cloned;rw[lS,lS,h3]);rw[fF];have okx:∀f:DSlot->DSlot,(∀{s},M.slotOk s=true->M.slotOk (f s)=true)->M.guestOk (M.mapG f x)=true:=λf hf=>(aLi (x:=M.mapG f x) c.live.live).2 ⟨c.live.core,by show(x.Pages.map f).length=8;rw[List.length_map];exact c.live.pages,bBw hf c.live.slots,c.live.inn,c.live.out⟩;refine⟨k.len,k.words,hlen,?_,?_⟩;{show(M.cloned h.Guests g.toNat a).all M.guestOk=true;unfold M.cloned;rw[c.live.at_];exact aXc (aXc k.all (okx _ aUw)) (okx _ bGs)}
 · show M.alone (M.slots (M.cloned h.Guests g.toNat a))=true
   rw[aNj];intro i hi s hs hw;rw[hlen]at hi;by_cases eg:i=g.toNat
   {rw[eg,c.at_g]at hs;obtain⟨t,_,rfl⟩:=List.mem_map.1 (show s∈x.Pages.map M.keep from hs);cases hw};{by_cases ea:i=a;{rw[ea,c.at_a]at hs;obtain⟨t,_,rfl⟩:=List.mem_map.1 (show s∈x.Pages.map M.fresh from hs);cases hw};{rw[c.at_k hi eg ea]at hs;have h1:=aNj.1 k.alone i (by omega) s hs hw;have h2:=bHo (gs:=h.Guests) (f:=s.Frame) (i:=i) (j:=g.toNat) (by omega) (by omega) eg;have hp:0<M.many (h.Guests.getD i default).Pages s.Frame:=bFv.2 ⟨s,hs,rfl⟩;rw[c.live.at_]at h2;rw[c.many];omega}}
theorem Cln.small(c:Cln h g x a)(hs:SmallH h):SmallH ⟨h.Words,M.cloned h.Guests g.toNat a⟩:=by have h3:=c.live.ok.three;have sm:∀f:DSlot->DSlot,SmallG (M.mapG f x):=λf=>⟨c.live.small.c,by show(x.Pages.map f).length<=_;rw[List.length_map];exact c.live.small.pages,c.live.small.i,c.live.small.o⟩;refine⟨hs.words,by unfold M.cloned;rw[lS,lS];exact hs.guests,λy hy=>?_⟩;have hy:y∈M.cloned h.Guests g.toNat a:=hy;unfold M.cloned at hy;rw[c.live.at_]at hy;rcases List.mem_or_eq_of_mem_set hy with hy|rfl;{rcases List.mem_or_eq_of_mem_set hy with hy|rfl;{exact hs.all y hy};{exact sm _}};{exact sm _}
theorem mem_map{ws:List Int}{f:DSlot->DSlot}(hf:∀s,(f s).Frame=s.Frame){ps:List DSlot}(hl:ps.length=8):M.mem ws (ps.map f)=M.mem ws ps:=by refine tE fE fE λb hb=>?_;rw[iR hb,iR hb];unfold M.word;rw[bFk (by omega),hf]
theorem Cln.free(c:Cln h g x a):M.hostFree ⟨h.Words,M.cloned h.Guests g.toNat a⟩=M.hostFree h:=by have h3:=c.live.ok.three;have:=c.live.lo;have:=c.live.hi;unfold M.hostFree;rw[c.hostOk,fF.2 c.live.ok,cTq,cTq,nT,nT];congr 1;refine List.filter_congr λf _=>?_;rw[decide_eq_decide];show M.many (M.slots (M.cloned h.Guests g.toNat a)) (f:Int)=0↔_;have:=aTn (gs:=h.Guests) (i:=g.toNat) (f:=(f:Int)) (by omega);rw[c.live.at_]at this;rw[c.many];omega
end
theorem aUl{h:DHost}{g:Int}(hs:SmallH h):SmallH (M.hostClone h g).1:=by rcases aFz (h:=h) (g:=g)with e|e;{rw[e];exact⟨by simp,by simp,by simp⟩};{obtain⟨x,a,c,e⟩:=e hs;rw[e];exact c.small hs}
section
variable {h : DHost} {g : Int} {x : DGuest}
end
theorem hG{h:DHost}(hs:SmallH h)(hk:HOk h):bW h=some h:=by unfold bW;rw[dY hs.words,aKf hs.guests hs.all hk.all];rfl
namespace M
def clean(s:DSlot):DSlot:=⟨s.Frame,s.Write,false⟩
end M
theorem aJt{ps:List DSlot}:(ps.map M.keep).map M.clean=ps.map M.fresh:=by rw[List.map_map];rfl
theorem aPm{ps:List DSlot}(h:ps.length<=1048576):hY ps=some (ps.map M.keep):=by
 unfold hY;rw[tJ h,oB]
 have key:=gE (n:=ps.length) (step:=eY ps) (λk=>(up M.keep k ps,(k:Int))) (λ_=>true) (JO.go (ps.map M.keep)) (JO.go (ps.map M.keep)) (λk hk _=>by
  have hl:=aDc (f:=M.keep) (k:=k) (xs:=ps);have hp:=aKv (f:=M.keep) hk;simp only[eY,iT];rw[dT (p:=(k:Int)<_) (by omega),cTq,aB ⟨by omega,by omega⟩,aC (by omega) (by omega),aOy hk,cTq,<-hp];rfl) (λ_=>by
  simp only[eY];rw[dF (by omega),cFq,aIz (Nat.le_refl _)])
 rw[Bool.cond_self]at key;have e:up M.keep 0 ps=ps:=aFn;rw[e]at key;show Option.bind (Option.bind (iter (eY ps) (ps,((0:Nat):Int))) LO.val) _=_;rw[key];rfl
theorem bAa{ps:List DSlot}(h:ps.length<=1048576):mJ ps=some (ps.map M.clean):=by
 unfold mJ;rw[tJ h,oB]
 have key:=gE (n:=ps.length) (step:=gL ps) (λk=>(up M.clean k ps,(k:Int))) (λ_=>true) (JO.go (ps.map M.clean)) (JO.go (ps.map M.clean)) (λk hk _=>by
  have hl:=aDc (f:=M.clean) (k:=k) (xs:=ps);have hp:=aKv (f:=M.clean) hk;simp only[gL,iT];rw[dT (p:=(k:Int)<_) (by omega),cTq,aB ⟨by omega,by omega⟩,aC (by omega) (by omega),aOy hk,cTq,<-hp];rfl) (λ_=>by
  simp only[gL];rw[dF (by omega),cFq,aIz (Nat.le_refl _)])
 rw[Bool.cond_self]at key;have e:up M.clean 0 ps=ps:=aFn;rw[e]at key;show Option.bind (Option.bind (iter (gL ps) (ps,((0:Nat):Int))) LO.val) _=_;rw[key];rfl
theorem bCm{gs:List DGuest}{a:Nat}{x:DGuest}{ps:List DSlot}(ha:a<gs.length):(gs.set a x).set a ⟨((gs.set a x).getD a default).Live,((gs.set a x).getD a default).C,ps,((gs.set a x).getD a default).In,((gs.set a x).getD a default).Out⟩=gs.set a ⟨x.Live,x.C,ps,x.In,x.Out⟩:=by rw[aDm ha,List.set_set]
theorem aUf{h:DHost}{g:Int}(hs:SmallH h):kZ h g=some (M.hostClone h g):=by unfold kZ M.hostClone;rw[rS hs,oB];(cases ht:M.there h g with|false=>rfl|true=>have l:=dC hs ht;have hk:=l.ok;have h3:=hk.three;have:=l.lo;have:=l.hi;have hr:=aAd h.Guests;have hp:=l.pages;rw[bT,cFq,aUj h3,oB,Bool.true_and];by_cases e:M.gone h.Guests=-1;{rw[dT e,dF (by simp[e])];rfl};{have gk:=aHp hk.all (i:=g.toNat) (by omega);rw[dF e,dT e,cFq,cTq,hG hs hk,oB,aB ⟨by omega,by omega⟩,aPm (by omega),oB,aB ⟨by omega,by omega⟩,aB ⟨by omega,by omega⟩];show Option.bind (dL (h.Guests.getD g.toNat default)) _=_;rw[zS l.small gk,oB,aB ⟨by omega,by omega⟩,aB ⟨by omega,by omega⟩,oB,bAa (by rw[List.length_map];omega),oB,aB ⟨by omega,by omega⟩,aJt];exact congrArg (λl=>some ((⟨h.Words,l⟩:DHost),M.gone h.Guests,true)) (bCm (gs:=h.Guests.set g.toNat (M.mapG M.keep (h.Guests.getD g.toNat default))) (x:=h.Guests.getD g.toNat default) (by rw[lS];omega))})
theorem bKg{h:DHost}(hk:HOk h):iter (eG h) (-1,2)=some (.ret (.go (M.gone h.Guests))):=by
 have h3:=hk.three
 have st:∀(i:Nat) (a:Int),i<3->eG h (a,(i:Int))=some (.next (bif (h.Guests.getD i default).Live then a else(i:Int),(i:Int)-1)):=λi a hi=>by
  simp only[eG,iT];rw[dT (p:=(0:Int)<=(i:Int)) (by omega),cTq,aB ⟨by omega,by omega⟩];cases(h.Guests.getD i default).Live
  all_goals
   simp only[bT,bF,cTq,cFq,oB,JO.run,rV];rw[aC (by omega) (by omega)]
 have sn:∀a:Int,eG h (a,-1)=some (.ret (.go a)):=λa=>by simp only[eG];rfl
 rw[show(2:Int)=((2:Nat):Int)from rfl,cH,st 2 _ (by omega)];simp only;rw[show((2:Nat):Int)-1=((1:Nat):Int)from rfl,cH,st 1 _ (by omega)];simp only;rw[show((1:Nat):Int)-1=((0:Nat):Int)from rfl,cH,st 0 _ (by omega)];simp only;rw[show((0:Nat):Int)-1=-1 from rfl,cH,sn];unfold M.gone;cases(h.Guests.getD 0 default).Live<;>cases(h.Guests.getD 1 default).Live<;>cases(h.Guests.getD 2 default).Live<;>rfl
section
variable {h : DHost} {g : Int} {x : DGuest}
theorem bLf(l:Live h g x):iter (fP g) (h.Guests,0)=some (.ret (.go (h.Guests.set g.toNat (M.mapG M.keep x)))):=by
 have h3:=l.ok.three;have:=l.lo;have:=l.hi;have hp:=l.pages
 have key:=gE (n:=8) (step:=fP g) (λk=>(h.Guests.set g.toNat (M.upG M.keep k x),(k:Int))) (λ_=>true) (JO.go (h.Guests.set g.toNat (M.mapG M.keep x))) (JO.go (h.Guests.set g.toNat (M.mapG M.keep x))) (λk hk _=>by
  have hl:=aDc (f:=M.keep) (k:=k) (xs:=x.Pages);have hpl:(M.upG M.keep k x).Pages.length=8:=(by show(up M.keep k x.Pages).length=8;omega);have hs:=aKv (f:=M.keep) (k:=k) (xs:=x.Pages) (by omega);have ha:=aOy (f:=M.keep) (k:=k) (xs:=x.Pages) (by omega);have e1:(h.Guests.set g.toNat (M.upG M.keep k x)).getD g.toNat default=M.upG M.keep k x:=aDm (by omega);simp only[fP,iT,e1];rw[dT (p:=(k:Int)<8) (by omega),cTq,aB ⟨by omega,by rw[lS];omega⟩,aB ⟨by omega,by omega⟩,aC (by omega) (by omega),cTq,List.set_set];show some (LO.next (h.Guests.set g.toNat (⟨x.Live,x.C,(up M.keep k x.Pages).set k ⟨((up M.keep k x.Pages).getD k default).Frame,false,((up M.keep k x.Pages).getD k default).Dirty⟩,x.In,x.Out⟩:DGuest),(k:Int)+1))=some (LO.next (h.Guests.set g.toNat (⟨x.Live,x.C,up M.keep (k+1) x.Pages,x.In,x.Out⟩:DGuest),((k+1:Nat):Int)));rw[ha,<-hs];rfl) (λ_=>by
  simp only[fP];rw[bJf (by omega)];rfl)
 rw[Bool.cond_self]at key;have e0:h.Guests.set g.toNat (M.upG M.keep 0 x)=h.Guests:=(by rw[bGj,<-l.at_];exact vD);rw[e0]at key;exact key
theorem bKl{ps:List DSlot}(hp:ps.length=8):iter eD (ps,0)=some (.ret (.go (ps.map M.clean))):=by
 have key:=gE (n:=8) (step:=eD) (λk=>(up M.clean k ps,(k:Int))) (λ_=>true) (JO.go (ps.map M.clean)) (JO.go (ps.map M.clean)) (λk hk _=>by
  have hl:=aDc (f:=M.clean) (k:=k) (xs:=ps);have hs:=aKv (f:=M.clean) (k:=k) (xs:=ps) (by omega);simp only[eD,iT];rw[dT (p:=(k:Int)<8) (by omega),cTq,aB ⟨by omega,by omega⟩,aC (by omega) (by omega),aOy (by omega),cTq,<-hs];rfl) (λ_=>by
  simp only[eD];rw[aIz (by omega)];rfl)
 rw[Bool.cond_self]at key;have e:up M.clean 0 ps=ps:=aFn;rw[e]at key;exact key
end
theorem aUk{h:DHost}{g:Int}(hs:SmallH h):lM h g=some (M.hostClone h g):=by unfold lM M.hostClone;rw[bNm hs,oB];(cases ht:M.there h g with|false=>rfl|true=>have l:=dC hs ht;have hk:=l.ok;have h3:=hk.three;have:=l.lo;have:=l.hi;have hr:=aAd h.Guests;have hp:=l.pages;rw[bT,cFq,bKg hk,Bool.true_and];simp only[oB,LO.val,JO.run,sR];by_cases e:M.gone h.Guests=-1;{rw[dT (p:=M.gone h.Guests<0) (by omega),dF (by simp[e])];rfl};{have gk:=aHp hk.all (i:=g.toNat) (by omega);have gk2:M.guestOk (M.mapG M.keep (h.Guests.getD g.toNat default))=true:=(aLi (x:=M.mapG M.keep _) l.live).2 ⟨l.core,by show(List.map _ _).length=8;rw[List.length_map];exact hp,bBw aUw l.slots,l.inn,l.out⟩;have sg:SmallG (M.mapG M.keep (h.Guests.getD g.toNat default)):=⟨l.small.c,by show(List.map _ _).length<=_;rw[List.length_map];exact l.small.pages,l.small.i,l.small.o⟩;rw[dF (p:=M.gone h.Guests<0) (by omega),dT e,cFq,cTq,bEj hs hk.all,oB,bLf l];simp only[oB,LO.val,JO.run,sQ];rw[aB ⟨by omega,by rw[lS];omega⟩];have e1:(h.Guests.set g.toNat (M.mapG M.keep (h.Guests.getD g.toNat default))).getD g.toNat default=M.mapG M.keep (h.Guests.getD g.toNat default):=aDm (by omega);simp only[e1];show Option.bind (fX (M.mapG M.keep (h.Guests.getD g.toNat default))) _=_;rw[aXn sg gk2,oB];show Option.bind (Option.bind (iter eD ((h.Guests.getD g.toNat default).Pages.map M.keep,0)) LO.val) _=_;rw[bKl (by rw[List.length_map];exact hp),aJt];simp only[oB,LO.val,JO.run,sS];rw[aB ⟨by omega,by rw[lS];omega⟩];rfl})
theorem bGu{T:Type}{xs ys:List T}{o k:Nat}(h:ys.length=8)(hk:8<=k):over xs o k ys=over xs o 8 ys:=by simp only[over,h];rw[Nat.min_eq_right hk,Nat.min_self]
theorem bGd{T:Type}[Inhabited T]{xs:List T}{u:Nat}:(xs.drop u).getD 0 default=xs.getD u default:=by simp[List.getD]
theorem bBs{T:Type}{xs:List T}{u n:Nat}(h:n=(xs.drop u).length):List.take (Int.toNat (n:Int)-Int.toNat 1) (List.drop (Int.toNat 1) (xs.drop u))=xs.drop (u+1):=by rw[show Int.toNat 1=1 from rfl,List.drop_drop,iT];apply List.take_of_length_le;rw[h];simp;omega
theorem aOc{mem:List Int}{p:Nat}(h:p<8):List.take (Int.toNat (w64 ((w64 ((p:Int)+1))*8))-Int.toNat (w64 ((p:Int)*8))) (List.drop (Int.toNat (w64 ((p:Int)*8))) mem)=M.page mem p:=by rw[aC (z:=(p:Int)+1) (by omega) (by omega),aC (z:=((p:Int)+1)*8) (by omega) (by omega),aC (z:=(p:Int)*8) (by omega) (by omega)];rw[show Int.toNat (((p:Int)+1)*8)-Int.toNat ((p:Int)*8)=8 by omega,show Int.toNat ((p:Int)*8)=p*8 by omega];rfl
theorem bLm{h:DHost}(hk:HOk h):iter (eE h) (-1,2)=some (.ret (.go (M.gone h.Guests))):=by
 have h3:=hk.three
 have st:∀(i:Nat) (a:Int),i<3->eE h (a,(i:Int))=some (.next (bif (h.Guests.getD i default).Live then a else(i:Int),(i:Int)-1)):=λi a hi=>by
  simp only[eE,iT];rw[dT (p:=(0:Int)<=(i:Int)) (by omega),cTq,aB ⟨by omega,by omega⟩];cases(h.Guests.getD i default).Live
  all_goals
   simp only[bT,bF,cTq,cFq,oB,JO.run,sO];rw[aC (by omega) (by omega)]
 have sn:∀a:Int,eE h (a,-1)=some (.ret (.go a)):=λa=>by simp only[eE];rfl
 rw[show(2:Int)=((2:Nat):Int)from rfl,cH,st 2 _ (by omega)];simp only;rw[show((2:Nat):Int)-1=((1:Nat):Int)from rfl,cH,st 1 _ (by omega)];simp only;rw[show((1:Nat):Int)-1=((0:Nat):Int)from rfl,cH,st 0 _ (by omega)];simp only;rw[show((0:Nat):Int)-1=-1 from rfl,cH,sn];unfold M.gone;cases(h.Guests.getD 0 default).Live<;>cases(h.Guests.getD 1 default).Live<;>cases(h.Guests.getD 2 default).Live<;>rfl
theorem bBm{b:DBare}{s:List Int×List Int×List DSlot×Int}{p:Nat}(hp:p<8)(hs:s.2.2.2=(p:Int))(hm:b.Mem.length=64):iter (fR b s) (true,0)=some (.ret (.go (M.zeros (M.page b.Mem p)))):=by
 have hl:=bIp (xs:=b.Mem) (p:=p) (by omega)
 have key:=gE (n:=8) (step:=fR b s) (λk=>((List.range k).all λj=>decide ((M.page b.Mem p).getD j default=0),(k:Int))) (λ_=>true) (JO.go (M.zeros (M.page b.Mem p))) (.go true) (λk hk _=>by
  simp only[fR,hs,aOc hp,iT];rw[dT (p:=(k:Int)<8) (by omega),cTq];have er:((List.range (k+1)).all λj=>decide ((M.page b.Mem p).getD j default=0))=(((List.range k).all λj=>decide ((M.page b.Mem p).getD j default=0))&&decide ((M.page b.Mem p).getD k default=0)):=(by rw[List.range_succ,List.all_append];simp);rw[er];cases((List.range k).all λj=>decide ((M.page b.Mem p).getD j default=0))with
  |true=>rw[cTq,aB ⟨by omega,by omega⟩];simp only[oB,JO.run,mI,Bool.true_and,cTq];rw[aC (by omega) (by omega)];rfl
  |false=>simp only[cFq,oB,JO.run,mI,Bool.false_and,cTq];rw[aC (by omega) (by omega)];rfl) (λ_=>by
  simp only[fR];rfl)
 rw[show(List.range 8).all (λ_=>true)=true by simp,cTq]at key;exact key
theorem aYt{b:DBare}{ws:List Int}{ss:List DSlot}{g:Int}(hg:0<=g)(hw:ws.length=160)(hm:b.Mem.length=64):
 iter (eT b g) (ws,M.free ss,[],0)=some (.ret (bif decide (M.used b.Mem 8<=(M.free ss).length)then .go (M.wordsFor b.Mem (M.free ss) ws 8,M.slotsFor b.Mem (M.free ss) 8)else .out (⟨[],[]⟩,-1,false))):=by
 have hfl:=bHp (ss:=ss)
 have key:=gE (n:=8) (step:=eT b g) (λp=>(M.wordsFor b.Mem (M.free ss) ws p,(M.free ss).drop (M.used b.Mem p),M.slotsFor b.Mem (M.free ss) p,(p:Int))) (λp=>M.zeros (M.page b.Mem p)||decide (M.used b.Mem p<(M.free ss).length))
  (JO.go (M.wordsFor b.Mem (M.free ss) ws 8,M.slotsFor b.Mem (M.free ss) 8)) (.out (⟨[],[]⟩,-1,false)) (λp hp ho=>by
  have hu:M.used b.Mem p<=(M.free ss).length:=(by have:((List.range p).all λp=>M.zeros (M.page b.Mem p)||decide (M.used b.Mem p<(M.free ss).length))=true:=(by simp only[List.all_eq_true,List.mem_range];exact ho);rw[aKp,decide_eq_true_eq]at this;exact this);have hlen:=xL (mem:=b.Mem) (ss:=ss) hw (p:=p) (by omega) hu;have hpl:=bIp (xs:=b.Mem) (p:=p) (by omega);have hsl:(M.slotsFor b.Mem (M.free ss) p).length=p:=(by simp[M.slotsFor]);have es:M.slotsFor b.Mem (M.free ss) (p+1)=M.slotsFor b.Mem (M.free ss) p++[M.slotFor b.Mem (M.free ss) p]:=(by simp[M.slotsFor,List.range_succ]);have ew:M.wordsFor b.Mem (M.free ss) ws (p+1)=(bif M.zeros (M.page b.Mem p)then M.wordsFor b.Mem (M.free ss) ws p else over (M.wordsFor b.Mem (M.free ss) ws p) (((M.free ss).getD (M.used b.Mem p) default).toNat*8) 8 (M.page b.Mem p)):=rfl;have eu:M.used b.Mem (p+1)=M.used b.Mem p+(bif M.zeros (M.page b.Mem p)then 0 else 1):=rfl;have b1:w64 ((p:Int)*8)=(p:Int)*8:=aC (by omega) (by omega);have b2:w64 ((w64 ((p:Int)+1))*8)=((p:Int)+1)*8:=(by rw[aC (z:=(p:Int)+1) (by omega) (by omega),aC (by omega) (by omega)]);simp only[eT];rw[dT (p:=(p:Int)<8) (by omega),cTq,dT hg,cTq,aB ⟨by omega,by omega,by omega⟩,bBm hp rfl hm];simp only[oB,LO.val,JO.run,sP,aOc hp];cases hz:M.zeros (M.page b.Mem p)with
  |true=>have:(⟨-1,false,false⟩:DSlot)=M.slotFor b.Mem (M.free ss) p:=(by unfold M.slotFor;rw[hz];rfl);rw[hz,cTq]at ew eu;rw[cTq,aB ⟨by simp;omega,by simp;omega⟩];simp only[oB,JO.run,nD,Bool.true_or,cTq];rw[aC (by omega) (by omega),this,<-es,ew,eu];rfl
  |false=>
   have:(⟨(M.free ss).getD (M.used b.Mem p) default,true,false⟩:DSlot)=M.slotFor b.Mem (M.free ss) p:=(by unfold M.slotFor;rw[hz];rfl);rw[hz,cFq]at ew eu;rw[cFq,Bool.false_or];by_cases e:M.used b.Mem p<(M.free ss).length;{have hr:=aKn (ss:=ss) (i:=M.used b.Mem p) e;have hdl:((M.free ss).drop (M.used b.Mem p)).length=(M.free ss).length-M.used b.Mem p:=(by simp);rw[dF (p:=(((List.drop (M.used b.Mem p) (M.free ss)).length:Nat):Int)=0) (by omega),cFq,show Int.toNat (0:Int)=0 from rfl,bGd];rw[aC (z:=(M.free ss).getD (M.used b.Mem p) default*8) (by omega) (by omega),aB ⟨by omega,by omega⟩,aB ⟨by omega,by omega,by omega⟩,aB ⟨by omega,by omega⟩,aB ⟨by simp;omega,by simp;omega⟩,aB ⟨by omega,by omega,by omega⟩];simp only[oB,JO.run,nD];rw[aC (by omega) (by omega),this,<-es,bBs rfl,bGu hpl (by omega),dT e,ew,eu];rw[show Int.toNat ((M.free ss).getD (M.used b.Mem p) default*8)=((M.free ss).getD (M.used b.Mem p) default).toNat*8 by omega];rfl}
   · rw[dF e,dT (p:=(((List.drop (M.used b.Mem p) (M.free ss)).length:Nat):Int)=0) (by simp;omega)];rfl) (λ_=>by
  simp only[eT];rfl)
 rw[aKp]at key;exact key
theorem aYz{h:DHost}{b:DBare}(hs:SmallH h)(hb:SmallB b):mM h b=some (M.hostBoot h b):=by unfold mM M.hostBoot;rw[aHw hs,oB];(cases hh:M.hostOk h with|false=>rfl|true=>have hk:=fF.1 hh;have h3:=hk.three;rw[bT,cFq,bHq hb,oB,Bool.true_and];(cases hbk:M.bareOk b with|false=>rfl|true=>have hm:=bDs hbk;have hr:=aAd h.Guests;have:=hb.i;have:=hb.o;rw[bT,cFq,bEj hs hk.all,oB,bLm hk,Bool.true_and];simp only[oB,LO.val,JO.run,tT];have ef:M.hostFree h=M.free (M.slots h.Guests):=(by unfold M.hostFree;rw[hh];rfl);rw[bAf hs,oB,ef,bBe hb.c,oB,aB ⟨by omega,by omega⟩,aB ⟨by omega,by omega⟩];by_cases e:M.gone h.Guests=-1;{rw[dT e,e];rw[show iter (eT b (-1)) (h.Words,M.free (M.slots h.Guests),[],0)=some (.ret (.go (h.Words,[]))) by rw[cH];rfl];rfl};{rw[aYt (by omega) hk.len hm,dF e,bF,Bool.true_and];(cases decide (M.used b.Mem 8<=(M.free (M.slots h.Guests)).length)with|false=>rfl|true=>simp only[cTq,oB,LO.val,JO.run,tX];rw[dF (by omega),cFq,aB ⟨by omega,by omega⟩];rfl)}))
theorem aFc{a b:Int}(ha:0<=a)(hb:0<b):0<=Int.tmod a b/\Int.tmod a b<b:=by rw[Int.tmod_eq_emod_of_nonneg ha];exact⟨Int.emod_nonneg _ (by omega),Int.emod_lt_of_pos _ hb⟩
theorem bKq:kQ=some true:=rfl
def enc(e:DEntry):Int:=8*e.Page+(bif e.There then 1 else 0)+(bif e.Write then 2 else 0)+(bif e.User then 4 else 0)
theorem aZk{p:Int}(h0:0<=p)(h7:p<=7):p=0\/p=1\/p=2\/p=3\/p=4\/p=5\/p=6\/p=7:=by omega
theorem aUu{e:DEntry}(h0:0<=e.Page)(h7:e.Page<=7):cV e=some (enc e):=by obtain⟨t,w,u,p⟩:=e;rcases aZk h0 h7 with h|h|h|h|h|h|h|h<;>simp only at h<;>subst h<;>cases t<;>cases w<;>cases u<;>rfl
theorem aIy{e:DEntry}(h:¬(0<=e.Page/\e.Page<=7)):cV e=some (-1):=by unfold cV bZ;rw[show∀b y:Bool,(cond b (some y) (some false))=some (b&&y)from λb y=>by cases b<;>rfl];have e1:(decide (0<=e.Page)&&decide (e.Page<=7))=false:=(by rw[Bool.eq_false_iff];simp;omega);rw[e1];rfl
theorem aUt(a b:Nat)(ha:a<9223372036854775808)(hb:b<9223372036854775808):bits .xor .i64 (a:Int) (b:Int)=((a^^^b:Nat):Int):=by have hx:a^^^b<2^63:=Nat.xor_lt_two_pow (by omega) (by omega);have h1:(BitVec.ofInt 64 (a:Int)).toNat=a:=(by rw[BitVec.ofInt_natCast,BitVec.toNat_ofNat];exact Nat.mod_eq_of_lt (by omega));have h2:(BitVec.ofInt 64 (b:Int)).toNat=b:=(by rw[BitVec.ofInt_natCast,BitVec.toNat_ofNat];exact Nat.mod_eq_of_lt (by omega));show IntKind.i64.wrap ((BitVec.ofInt 64 (a:Int)^^^BitVec.ofInt 64 (b:Int)).toNat:Int)=_;rw[BitVec.toNat_xor,h1,h2];exact zF (by omega) (by omega)
theorem bNg{a b:Int}(a0:0<=a)(a1:a<=9223372036854775807)(b0:0<=b)(b1:b<=9223372036854775807):0<=bits .xor .i64 a b:=by obtain⟨x,rfl⟩:=Int.eq_ofNat_of_zero_le a0;obtain⟨y,rfl⟩:=Int.eq_ofNat_of_zero_le b0;rw[aUt x y (by omega) (by omega)];omega
theorem aMi{b:List Int}(hb:∀x∈b,0<=x/\x<=255)(i:Nat):0<=b.getD i default/\b.getD i default<=255:=by by_cases h:i<b.length;{rw[List.getD,List.getElem?_eq_getElem h];exact hb _ (List.getElem_mem h)};{rw[List.getD,List.getElem?_eq_none (by omega)];exact⟨by decide,by decide⟩}
theorem bKn{r:Dl20Rd}{n:Int}(hn:1<=n)(h0:0<=r.p)(h1:r.p<=1000000)(hb:∀x∈r.b,0<=x/\x<=255):∃v,aA r n=some (⟨r.b,r.p+1⟩,v)/\0<=v/\v<n:=by
 unfold aA;have e1:w64 (r.p+1)=r.p+1:=aC (by omega) (by omega);rw[e1,show r.p+1-1=r.p by omega,aC (z:=r.p) (by omega) (by omega),decide_eq_false (show¬n<1 by omega),cond_false];by_cases hl:((r.b.length:Nat):Int)=0;{rw[decide_eq_true hl];exact⟨_,rfl,by omega,by omega⟩}
 · rw[decide_eq_false hl,cond_false]
   have hp:(0:Int)<((r.b.length:Nat):Int):=(by omega);have hn0:n≠0:=(by omega);by_cases hk:r.p<((r.b.length:Nat):Int)
   · rw[decide_eq_true hk,cond_true,aB ⟨h0,hk⟩,aB hn0]
     have g:=aMi hb r.p.toNat
     rw[zF (by omega) (by omega)];exact⟨_,rfl,aFc g.1 (by omega)⟩
   {have e2:w64 (w64 (r.p*7)+3)=r.p*7+3:=(by rw[aC (z:=r.p*7) (by omega) (by omega),aC (by omega) (by omega)]);rw[decide_eq_false hk,cond_false,e2,aB hl,aB (aFc h0 hp),aB hl,aB (aFc (by omega) hp),aB hl,aB hn0];have g1:=aMi hb (Int.toNat (Int.tmod r.p ((r.b.length:Nat):Int)));have g2:=aMi hb (Int.toNat (Int.tmod (r.p*7+3) ((r.b.length:Nat):Int)));generalize r.b.getD (Int.toNat (Int.tmod r.p ((r.b.length:Nat):Int))) default=X at g1 ⊢;generalize r.b.getD (Int.toNat (Int.tmod (r.p*7+3) ((r.b.length:Nat):Int))) default=Y at g2 ⊢;have q:Int.tdiv r.p ((r.b.length:Nat):Int)=r.p/((r.b.length:Nat):Int):=Int.tdiv_eq_ediv_of_nonneg h0;have q0:0<=r.p/((r.b.length:Nat):Int):=Int.ediv_nonneg h0 (by omega);have q1:r.p/((r.b.length:Nat):Int)<=r.p:=Int.ediv_le_self _ h0;rw[q];generalize r.p/((r.b.length:Nat):Int)=Q at q0 q1 ⊢;have k1:IntKind.wrap .i64 X=X:=zF (by omega) (by omega);have k2:IntKind.wrap .i64 Y=Y:=zF (by omega) (by omega);have k3:w64 (w64 (w64 (w64 (X*131)+w64 (Y*1117))+w64 (r.p*29))+w64 (w64 Q*53))=X*131+Y*1117+r.p*29+Q*53:=(by rw[aC (z:=X*131) (by omega) (by omega),aC (z:=Y*1117) (by omega) (by omega),aC (z:=X*131+Y*1117) (by omega) (by omega),aC (z:=r.p*29) (by omega) (by omega),aC (z:=X*131+Y*1117+r.p*29) (by omega) (by omega),aC (z:=Q) (by omega) (by omega),aC (z:=Q*53) (by omega) (by omega),aC (by omega) (by omega)]);rw[k1,k2,k3];have a0:0<=X*131+Y*1117+r.p*29+Q*53:=(by omega);have a1:X*131+Y*1117+r.p*29+Q*53<=9223372036854775807:=(by omega);generalize X*131+Y*1117+r.p*29+Q*53=A at a0 a1 ⊢;have d:Int.tdiv A 64=A/64:=Int.tdiv_eq_ediv_of_nonneg a0;rw[d,aC (z:=A/64) (by omega) (by omega)];exact⟨_,rfl,aFc (bNg a0 a1 (by omega) (by omega)) (by omega)⟩}
structure Rdr (m : Int) (r : Dl20Rd) : Prop where
 b:∀x∈r.b,0<=x/\x<=255
 p0:0<=r.p
 p1:r.p<=m
theorem Rdr.up{m n:Int}{r:Dl20Rd}(h:Rdr m r)(hn:m<=n):Rdr n r:=⟨h.b,h.p0,Int.le_trans h.p1 hn⟩
theorem aK{m n:Int}{r:Dl20Rd}(R:Rdr m r)(hm:m<=1000000)(hn:1<=n):Ex (aA r n) (λv=>Rdr (m+1) v.1/\0<=v.2/\v.2<n):=by obtain⟨b,p0,p1⟩:=R;obtain⟨v,h1,h2,h3⟩:=bKn hn p0 (by omega) b;exact⟨_,h1,⟨b,by show 0<=r.p+1;omega,by show r.p+1<=m+1;omega⟩,h2,h3⟩
theorem aLk{m:Int}{r:Dl20Rd}(R:Rdr m r)(hm:m<=999999):Ex (cI r) (λv=>Rdr (m+2) v.1/\0<=v.2/\v.2<=4095):=by unfold cI;refine Ex.bind (aK R (by omega) (by omega)) λv1 ⟨R1,a1,b1⟩=>?_;refine Ex.bind (aK R1 (by omega) (by omega)) λv2 ⟨R2,a2,b2⟩=>?_;rw[aC (z:=v1.2*256) (by omega) (by omega),aC (by omega) (by omega)];exact Ex.ret ⟨R2.up (by omega),by show 0<=v1.2*256+v2.2;omega,by show v1.2*256+v2.2<=4095;omega⟩
theorem bNu{xs:List Int}(h:∀x∈xs,0<=x/\x<=255):Ex (iU xs) (λr=>Rdr 0 r):=by unfold iU;refine Ex.join (P:=λs=>∀x∈s,0<=x/\x<=255) ?_ λs hs=>Ex.ret ⟨hs,Int.le_refl _,Int.le_refl _⟩;refine Ex.cond (λhc=>?_) λhc=>Ex.ret ⟨_,rfl,h⟩;have:=of_decide_eq_true hc;exact Ex.grd ⟨by omega,by omega,by omega⟩ (Ex.ret ⟨_,rfl,λx hx=>h x (List.mem_of_mem_drop (List.mem_of_mem_take hx))⟩)
theorem bAv{m n:Int}{r:Dl20Rd}(R:Rdr m r)(hm:m<=1000000):Ex (bN r n) (λv=>Rdr (m+1) v.1):=by unfold bN;refine Ex.cond (λh=>?_) λ_=>Ex.ret (R.up (by omega));have:=of_decide_eq_true h;exact Ex.bind (aK R hm (by omega)) λv1 ⟨R1,_,_⟩=>Ex.ret R1
theorem bBb{m n:Int}{r:Dl20Rd}(R:Rdr m r)(hm:m<=1000000):Ex (bN r n) (λv=>Rdr (m+1) v.1/\(n<=0->v.2=false)):=by unfold bN;refine Ex.cond (λh=>?_) λ_=>Ex.ret ⟨R.up (by omega),λ_=>rfl⟩;have:=of_decide_eq_true h;exact Ex.bind (aK R hm (by omega)) λv1 ⟨R1,_,_⟩=>Ex.ret ⟨R1,λ_=>by omega⟩
theorem aGs(e:DEntry):Ex (cV e) (λ_=>True):=by by_cases h:0<=e.Page/\e.Page<=7;{rw[aUu h.1 h.2];exact Ex.ret trivial};{rw[aIy h];exact Ex.ret trivial}
theorem bFr{m:Int}(hm:m<=990000)(h0:0<=m)(s:List Int×Int×List Int×Int)(hs:0<=s.2.2.2/\s.2.2.2<=64/\Rdr (m+8*s.2.2.2) ⟨s.1,s.2.1⟩/\(s.2.2.1.length:Int)=s.2.2.2):
 Ex (qK s) (λo=>(∃s',o= .next s'/\(0<=s'.2.2.2/\s'.2.2.2<=64/\Rdr (m+8*s'.2.2.2) ⟨s'.1,s'.2.1⟩/\(s'.2.2.1.length:Int)=s'.2.2.2)/\64-s'.2.2.2.toNat<64-s.2.2.2.toNat)\/∃t,o= .ret (.go t)/\(Rdr (m+512) ⟨t.1,t.2.1⟩/\t.2.2.length=64)):=by
 obtain⟨b,p,mem,k⟩:=s;obtain⟨k0,k1,R,hl⟩:=hs;simp only at k0 k1 R hl;unfold qK;refine Ex.cond (λhk=>?_) λhk=>?_
 · have hk:k<64:=of_decide_eq_true hk
   refine Ex.join (P:=λs8:List Int×Int×Int=>Rdr (m+8*k+3) ⟨s8.1,s8.2.1⟩) ?_ λs8 R8=>?_;{refine Ex.bind (aK R (by omega) (by omega)) λv1 ⟨R1,a1,b1⟩=>?_;refine Ex.cond (λ_=>?_) λ_=>?_;{exact Ex.bind (aLk R1 (by omega)) λv2 ⟨R2,_,_⟩=>Ex.ret ⟨_,rfl,R2.up (by omega)⟩};{exact Ex.ret ⟨_,rfl,R1.up (by omega)⟩}}
   · unfold xN
     refine Ex.join (P:=λs9:List Int×Int×Int=>Rdr (m+8*k+7) ⟨s9.1,s9.2.1⟩) ?_ λs9 R9=>?_
     · have e:∀Q:JO (List Int×Int×Int) (LO (List Int×Int×List Int×Int) (JO (List Int×Int×List Int) (Dl20Rd×List Int)))->Prop,(∀v:Dl20Rd×Int,∀w,Rdr (m+8*k+7) v.1->Q (.go (v.1.b,v.1.p,w)))->Ex (Option.bind (aA (Dl20Rd.mk s8.1 s8.2.1) (5:Int)) λv10=>
        Option.bind (aA v10.1 (4:Int)) λv11=>
        Option.bind (aA v11.1 (3:Int)) λv12=>
        Option.bind (aA v12.1 (8:Int)) λv13=>
        Option.bind (cV (DEntry.mk (decide ((0:Int)<v10.2)) (decide ((0:Int)<v11.2)) (decide ((0:Int)<v12.2)) v13.2)) λv14=>
        some (.go (v13.1.b,v13.1.p,v14))) Q:=λQ hQ=>by
        refine Ex.bind (aK R8 (by omega) (by omega)) λv1 ⟨R1,a1,b1⟩=>?_;refine Ex.bind (aK R1 (by omega) (by omega)) λv2 ⟨R2,a2,b2⟩=>?_;refine Ex.bind (aK R2 (by omega) (by omega)) λv3 ⟨R3,a3,b3⟩=>?_;refine Ex.bind (aK R3 (by omega) (by omega)) λv4 ⟨R4,a4,b4⟩=>?_;refine Ex.bind (aGs _) λv5 _=>?_;exact Ex.ret (hQ v4 v5 (R4.up (by omega)))
       refine Ex.cond (λ_=>?_) λ_=>?_;{exact e _ λv w h=>⟨_,rfl,h⟩};{refine Ex.cond (λ_=>?_) λ_=>?_;{exact e _ λv w h=>⟨_,rfl,h⟩};{exact Ex.ret ⟨_,rfl,R8.up (by omega)⟩}}
     · unfold xI
       refine Ex.grd ⟨by simp only[List.length_cons,List.length_nil];omega,by simp only[List.length_cons,List.length_nil];omega⟩ (Ex.ret (.inl ⟨_,rfl,⟨?_,?_,?_,?_⟩,?_⟩));all_goals simp only[aC (z:=k+1) (by omega) (by omega),List.length_append,List.length_cons,List.length_nil]
       {omega};{omega};{exact R9.up (by omega)};{omega};{omega}
 {have hk:¬k<64:=of_decide_eq_false hk;exact Ex.ret (.inr ⟨_,rfl,R.up (by omega),by show mem.length=64;omega⟩)}
theorem bIk{m n:Int}{r:Dl20Rd}(R:Rdr m r)(h0:0<=m)(hm:m<=990000):Ex (lU r n) (λv=>Rdr (m+600) v.1/\v.2.length<=64/\(n<=0->v.2.length=64)):=by unfold lU;refine Ex.join (Ex.loopv (λs:List Int×Int×List Int×Int=>0<=s.2.2.2/\s.2.2.2<=64/\Rdr (m+8*s.2.2.2) ⟨s.1,s.2.1⟩/\(s.2.2.1.length:Int)=s.2.2.2) (λs=>64-s.2.2.2.toNat) (λt=>Rdr (m+512) ⟨t.1,t.2.1⟩/\t.2.2.length=64) ⟨by simp,by simp,R.up (by simp),by simp⟩ (bFr hm h0)) λs1 ⟨R1,hl⟩=>?_;unfold wU;refine Ex.join (P:=λs2:List Int×Int×List Int=>Rdr (m+600) ⟨s2.1,s2.2.1⟩/\s2.2.2.length<=64/\(n<=0->s2.2.2.length=64)) ?_ λs2 h2=>Ex.ret h2;refine Ex.bind (bBb R1 (by omega)) λv3 ⟨R3,o3⟩=>?_;refine Ex.cond (λhv=>?_) λ_=>?_;{refine Ex.bind (aK R3 (by omega) (by omega)) λv4 ⟨R4,a4,b4⟩=>?_;refine Ex.cond (λ_=>?_) λ_=>?_;{exact Ex.grd ⟨by omega,by omega,by omega⟩ (Ex.ret ⟨_,rfl,R4.up (by omega),by rw[List.length_take];omega,λhn=>by rw[o3 hn]at hv;cases hv⟩)};{refine Ex.bind (aK R4 (by omega) (by omega)) λv5 ⟨R5,a5,b5⟩=>?_;refine Ex.bind (aK R5 (by omega) (by omega)) λv6 ⟨R6,a6,b6⟩=>?_;exact Ex.grd ⟨by omega,by omega⟩ (Ex.ret ⟨_,rfl,R6.up (by omega),by rw[lS];omega,λhn=>by rw[o3 hn]at hv;cases hv⟩)}};{exact Ex.ret ⟨_,rfl,R3.up (by omega),by show s1.2.2.length<=64;omega,λ_=>hl⟩}
theorem bJd{Q:Bool->Prop}(h:Q true):Ex kQ Q:=⟨_,bKq,h⟩
theorem bBd{m:Int}(hm:m<=990000)(h0:0<=m)(s:List Int×Int×List Int×Int)(hs:0<=s.2.2.2/\s.2.2.2<=4/\Rdr (m+8*s.2.2.2) ⟨s.1,s.2.1⟩/\(s.2.2.1.length:Int)=s.2.2.2):
 Ex (nB s) (λo=>(∃s',o= .next s'/\(0<=s'.2.2.2/\s'.2.2.2<=4/\Rdr (m+8*s'.2.2.2) ⟨s'.1,s'.2.1⟩/\(s'.2.2.1.length:Int)=s'.2.2.2)/\4-s'.2.2.2.toNat<4-s.2.2.2.toNat)\/∃t,o= .ret (.go t)/\(Rdr (m+32) ⟨t.1,t.2.1⟩/\t.2.2.length=4)):=by
 obtain⟨b,p,rs,k⟩:=s;obtain⟨k0,k1,R,hl⟩:=hs;simp only at k0 k1 R hl;unfold nB;refine Ex.cond (λhk=>?_) λhk=>?_
 · have hk:k<4:=of_decide_eq_true hk
   refine Ex.bind (aK R (by omega) (by omega)) λv1 ⟨R1,a1,b1⟩=>?_;refine Ex.bind (aK R1 (by omega) (by omega)) λv2 ⟨R2,a2,b2⟩=>?_;refine Ex.bind (aLk R2 (by omega)) λv3 ⟨R3,a3,b3⟩=>?_;refine Ex.bind (aK R3 (by omega) (by omega)) λv4 ⟨R4,a4,b4⟩=>?_;refine Ex.grd ⟨a4,by simp only[List.length_cons,List.length_nil];omega⟩ ?_;refine Ex.grd ⟨by simp only[List.length_cons,List.length_nil];omega,by simp only[List.length_cons,List.length_nil];omega⟩ (Ex.ret (.inl ⟨_,rfl,⟨?_,?_,?_,?_⟩,?_⟩));all_goals simp only[aC (z:=k+1) (by omega) (by omega),List.length_append,List.length_cons,List.length_nil]
   {omega};{omega};{exact R4.up (by omega)};{omega};{omega}
 {have hk:¬k<4:=of_decide_eq_false hk;exact Ex.ret (.inr ⟨_,rfl,R.up (by omega),by show rs.length=4;omega⟩)}
theorem bBy{m n:Int}{r:Dl20Rd}(R:Rdr m r)(h0:0<=m)(hm:m<=980000):Ex (kV r n) (λv=>Rdr (m+60) v.1/\v.2.Regs.length<=4):=by unfold kV;refine Ex.bind (aK R (by omega) (by omega)) λv1 ⟨R1,a1,b1⟩=>?_;refine Ex.bind (aK R1 (by omega) (by omega)) λv2 ⟨R2,a2,b2⟩=>?_;refine Ex.grd ⟨a2,by simp only[List.length_cons,List.length_nil];omega⟩ ?_;refine Ex.bind (aK R2 (by omega) (by omega)) λv3 ⟨R3,a3,b3⟩=>?_;refine Ex.bind (aK R3 (by omega) (by omega)) λv4 ⟨R4,a4,b4⟩=>?_;refine Ex.bind (aK R4 (by omega) (by omega)) λv5 ⟨R5,a5,b5⟩=>?_;refine Ex.bind (aK R5 (by omega) (by omega)) λv6 ⟨R6,a6,b6⟩=>?_;refine Ex.bind (aK R6 (by omega) (by omega)) λv7 ⟨R7,a7,b7⟩=>?_;refine Ex.bind (aK R7 (by omega) (by omega)) λv8 ⟨R8,a8,b8⟩=>?_;refine Ex.bind (aK R8 (by omega) (by omega)) λv9 ⟨R9,a9,b9⟩=>?_;refine Ex.bind (aK R9 (by omega) (by omega)) λv10 ⟨R10,a10,b10⟩=>?_;refine Ex.bind (aK R10 (by omega) (by omega)) λv11 ⟨R11,a11,b11⟩=>?_;refine Ex.bind (aK R11 (by omega) (by omega)) λv12 ⟨R12,a12,b12⟩=>?_;refine Ex.bind (aK R12 (by omega) (by omega)) λv13 ⟨R13,a13,b13⟩=>?_;have R13:Rdr (m+13) v13.1:=R13.up (by omega);refine Ex.join (Ex.loopv (λs:List Int×Int×List Int×Int=>0<=s.2.2.2/\s.2.2.2<=4/\Rdr (m+13+8*s.2.2.2) ⟨s.1,s.2.1⟩/\(s.2.2.1.length:Int)=s.2.2.2) (λs=>4-s.2.2.2.toNat) (λt=>Rdr (m+13+32) ⟨t.1,t.2.1⟩/\t.2.2.length=4) ⟨by simp,by simp,R13.up (by simp),by simp⟩ (bBd (by omega) (by omega))) λs1 ⟨RL,hl⟩=>?_;unfold uD;refine Ex.join (P:=λs2:List Int×Int×List Int×Int×Int=>Rdr (m+60) ⟨s2.1,s2.2.1⟩/\s2.2.2.1.length<=4) ?_ λs2 h2=>Ex.ret h2;refine Ex.bind (bAv RL (by omega)) λv16 R16=>?_;have R16:Rdr (m+46) v16.1:=R16.up (by omega);refine Ex.cond (λ_=>?_) λ_=>?_;{refine Ex.bind (aK R16 (by omega) (by omega)) λv17 ⟨R17,a17,b17⟩=>?_;refine Ex.cond (λ_=>?_) λ_=>?_;{exact Ex.grd ⟨by omega,by omega,by omega⟩ (Ex.ret ⟨_,rfl,R17.up (by omega),by simp only[List.length_take];omega⟩)};{refine Ex.cond (λ_=>?_) λ_=>?_;{exact Ex.bind (aK R17 (by omega) (by omega)) λv18 ⟨R18,a18,b18⟩=>Ex.ret ⟨_,rfl,R18.up (by omega),by simp only;omega⟩};{refine Ex.cond (λ_=>?_) λ_=>?_;{exact Ex.bind (aK R17 (by omega) (by omega)) λv18 ⟨R18,a18,b18⟩=>Ex.ret ⟨_,rfl,R18.up (by omega),by simp only;omega⟩};{exact Ex.bind (aK R17 (by omega) (by omega)) λv18 ⟨R18,a18,b18⟩=>Ex.grd ⟨by omega,by omega⟩ (Ex.ret ⟨_,rfl,R18.up (by omega),by simp only[lS];omega⟩)}}}};{exact Ex.ret ⟨_,rfl,R16.up (by omega),by simp only;omega⟩}
namespace M
def insOk(x:DIns):Bool:=inR 0 15 x.Op&&inR 0 3 x.A&&inR 0 63 x.N
end M
theorem bKr(x:DIns):sH x=some (M.insOk x):=by unfold sH;rw[xB,xB,xB];simp only[oB,M.insOk];cases M.inR 0 15 x.Op<;>cases M.inR 0 3 x.A<;>cases M.inR 0 63 x.N<;>rfl
theorem bDd(x:DIns):Ex (oH x) (λ_=>True):=by unfold oH;rw[bKr];exact Ex.cond (λ_=>Ex.ret trivial) λ_=>Ex.ret trivial
theorem bOw{m n:Int}{r:Dl20Rd}(R:Rdr m r)(hm:m<=999000):Ex (qA r n) (λv=>Rdr (m+6) v.1):=by unfold qA;refine Ex.bind (aK R (by omega) (by omega)) λv1 ⟨R1,a1,b1⟩=>?_;refine Ex.bind (aK R1 (by omega) (by omega)) λv2 ⟨R2,a2,b2⟩=>?_;refine Ex.bind (aK R2 (by omega) (by omega)) λv3 ⟨R3,a3,b3⟩=>?_;refine Ex.join (P:=λs:Int×List Int×Int×Int×Int=>Rdr (m+6) ⟨s.2.1,s.2.2.1⟩) ?_ λs hs=>Ex.ret hs;refine Ex.bind (bAv R3 (by omega)) λv5 R5=>?_;refine Ex.cond (λ_=>?_) λ_=>Ex.ret ⟨_,rfl,R5.up (by omega)⟩;refine Ex.bind (aK R5 (by omega) (by omega)) λv6 ⟨R6,a6,b6⟩=>?_;refine Ex.cond (λ_=>?_) λ_=>?_;{exact Ex.bind (aK R6 (by omega) (by omega)) λv7 ⟨R7,_,_⟩=>Ex.ret ⟨_,rfl,R7.up (by omega)⟩};{refine Ex.cond (λ_=>?_) λ_=>?_;{exact Ex.ret ⟨_,rfl,R6.up (by omega)⟩};{exact Ex.bind (aK R6 (by omega) (by omega)) λv7 ⟨R7,_,_⟩=>Ex.ret ⟨_,rfl,R7.up (by omega)⟩}}
theorem bEt{m:Int}{L:Nat}(hL:L<=64)(hm:m<=900000)(h0:0<=m)(s:List Int×Int×List Int×Int)(hs:0<=s.2.2.2/\s.2.2.2<=(L:Int)/\Rdr (m+12*s.2.2.2) ⟨s.1,s.2.1⟩/\s.2.2.1.length=L):
 Ex (pI s) (λo=>(∃s',o= .next s'/\(0<=s'.2.2.2/\s'.2.2.2<=(L:Int)/\Rdr (m+12*s'.2.2.2) ⟨s'.1,s'.2.1⟩/\s'.2.2.1.length=L)/\L-s'.2.2.2.toNat<L-s.2.2.2.toNat)\/∃t,o= .ret (.go t)/\(Rdr (m+768) ⟨t.2.1,t.2.2⟩/\t.1.length=L)):=by
 obtain⟨b,p,mem,k⟩:=s;obtain⟨k0,k1,R,hl⟩:=hs;simp only at k0 k1 R hl;unfold pI;refine Ex.cond (λhk=>?_) λhk=>?_
 · have hk:k<(mem.length:Int):=of_decide_eq_true hk
   refine Ex.join (P:=λs4:List Int×Int×List Int=>Rdr (m+12*k+12) ⟨s4.1,s4.2.1⟩/\s4.2.2.length=L) ?_ λs4 ⟨R4,hl4⟩=>?_;{refine Ex.join (P:=λ_:Bool=>True) (Ex.cond (λ_=>Ex.ret ⟨_,rfl,trivial⟩) λ_=>Ex.ret ⟨_,rfl,trivial⟩) λs5 _=>?_;unfold vK;refine Ex.cond (λ_=>?_) λ_=>?_;{refine Ex.bind (aK R (by omega) (by omega)) λv6 ⟨R6,a6,b6⟩=>?_;refine Ex.cond (λ_=>?_) λ_=>Ex.ret ⟨_,rfl,R6.up (by omega),hl⟩;refine Ex.bind (aK R6 (by omega) (by omega)) λv7 ⟨R7,a7,b7⟩=>?_;refine Ex.bind (aK R7 (by omega) (by omega)) λv8 ⟨R8,a8,b8⟩=>?_;refine Ex.bind (aK R8 (by omega) (by omega)) λv9 ⟨R9,a9,b9⟩=>?_;refine Ex.bind (aGs _) λv10 _=>?_;exact Ex.grd ⟨k0,hk⟩ (Ex.ret ⟨_,rfl,R9.up (by omega),by simp only[lS];exact hl⟩)};{refine Ex.bind (bOw R (by omega)) λv11 R11=>?_;refine Ex.join (P:=λs12:List Int×Int×Int=>Rdr (m+12*k+8) ⟨s12.1,s12.2.1⟩) ?_ λs12 R12=>?_;{refine Ex.bind (aK R11 (by omega) (by omega)) λv16 ⟨R16,a16,b16⟩=>?_;refine Ex.cond (λ_=>?_) λ_=>Ex.ret ⟨_,rfl,R16.up (by omega)⟩;refine Ex.bind (aK R16 (by omega) (by omega)) λv17 ⟨R17,a17,b17⟩=>?_;exact Ex.grd ⟨a17,b17⟩ (Ex.ret ⟨_,rfl,R17.up (by omega)⟩)};{unfold uM;refine Ex.join (P:=λs13:List Int×Int×Int=>Rdr (m+12*k+9) ⟨s13.1,s13.2.1⟩) ?_ λs13 R13=>?_;{refine Ex.cond (λ_=>?_) λ_=>Ex.ret ⟨_,rfl,R12.up (by omega)⟩;refine Ex.bind (aK R12 (by omega) (by omega)) λv15 ⟨R15,a15,b15⟩=>?_;exact Ex.cond (λ_=>Ex.ret ⟨_,rfl,R15.up (by omega)⟩) λ_=>Ex.ret ⟨_,rfl,R15.up (by omega)⟩};{unfold uW;refine Ex.bind (bDd _) λv14 _=>?_;exact Ex.grd ⟨k0,hk⟩ (Ex.ret ⟨_,rfl,R13.up (by omega),by simp only[lS];exact hl⟩)}}}}
   · unfold vP
     refine Ex.ret (.inl ⟨_,rfl,⟨?_,?_,?_,?_⟩,?_⟩);all_goals simp only[aC (z:=k+1) (by omega) (by omega)]
     {omega};{omega};{exact R4.up (by omega)};{exact hl4};{omega}
 {have hk:¬k<(mem.length:Int):=of_decide_eq_false hk;exact Ex.ret (.inr ⟨_,rfl,R.up (by omega),hl⟩)}
theorem bLx{m:Int}{r:Dl20Rd}(R:Rdr m r)(h0:0<=m)(hm:m<=800000):Ex (nV r) (λv=>Rdr (m+1400) v.1/\v.2.length=64):=by unfold nV;refine Ex.bind (bIk R h0 (by omega)) λv1 ⟨R1,hl,hl0⟩=>?_;have hl0:=hl0 (by omega);refine Ex.join (Ex.loopv (λs:List Int×Int×List Int×Int=>0<=s.2.2.2/\s.2.2.2<=(v1.2.length:Int)/\Rdr (m+600+12*s.2.2.2) ⟨s.1,s.2.1⟩/\s.2.2.1.length=v1.2.length) (λs=>v1.2.length-s.2.2.2.toNat) (λt=>Rdr (m+600+768) ⟨t.2.1,t.2.2⟩/\t.1.length=v1.2.length) ⟨by simp,by simp,R1.up (by simp),rfl⟩ (bEt hl (by omega) (by omega))) λs2 ⟨R2,h2⟩=>?_;unfold vL;exact Ex.ret ⟨R2.up (by omega),by show s2.1.length=64;omega⟩
theorem aZe{m:Int}(hm:m<=900000)(h0:0<=m)(s:List Int×Int×List Int×Int)(hs:0<=s.2.2.2/\s.2.2.2<=3/\Rdr (m+2*(3-s.2.2.2)) ⟨s.1,s.2.1⟩/\(s.2.2.1.length:Int)+s.2.2.2<=3):
 Ex (jU s) (λo=>(∃s',o= .next s'/\(0<=s'.2.2.2/\s'.2.2.2<=3/\Rdr (m+2*(3-s'.2.2.2)) ⟨s'.1,s'.2.1⟩/\(s'.2.2.1.length:Int)+s'.2.2.2<=3)/\s'.2.2.2.toNat<s.2.2.2.toNat)\/∃t,o= .ret (.go t)/\(Rdr (m+6) ⟨t.1,t.2.1⟩/\t.2.2.length<=3)):=by
 obtain⟨b,p,l,k⟩:=s;obtain⟨k0,k1,R,hl⟩:=hs;simp only at k0 k1 R hl;unfold jU;refine Ex.cond (λhk=>?_) λhk=>?_
 · have hk:0<k:=of_decide_eq_true hk
   refine Ex.bind (aLk R (by omega)) λv ⟨R1,a1,b1⟩=>?_;refine Ex.grd ⟨by simp only[List.length_cons,List.length_nil];omega,by simp only[List.length_cons,List.length_nil];omega⟩ (Ex.ret (.inl ⟨_,rfl,⟨?_,?_,?_,?_⟩,?_⟩));all_goals simp only[aC (z:=k-1) (by omega) (by omega),List.length_append,List.length_cons,List.length_nil]
   {omega};{omega};{exact R1.up (by omega)};{omega};{omega}
 {have hk:¬0<k:=of_decide_eq_false hk;exact Ex.ret (.inr ⟨_,rfl,R.up (by omega),by show l.length<=3;omega⟩)}
theorem aWx{m k:Int}{r:Dl20Rd}(R:Rdr m r)(h0:0<=m)(hm:m<=900000)(k0:0<=k)(k1:k<=3):Ex (Option.bind (iter jU (r.b,r.p,[],k)) LO.val) (λj=>∃t,j= .go t/\(Rdr (m+6) ⟨t.1,t.2.1⟩/\t.2.2.length<=3)):=Ex.loopv (λs:List Int×Int×List Int×Int=>0<=s.2.2.2/\s.2.2.2<=3/\Rdr (m+2*(3-s.2.2.2)) ⟨s.1,s.2.1⟩/\(s.2.2.1.length:Int)+s.2.2.2<=3) (λs=>s.2.2.2.toNat) (λt:List Int×Int×List Int=>Rdr (m+6) ⟨t.1,t.2.1⟩/\t.2.2.length<=3) ⟨k0,k1,R.up (by simp only;omega),by simp only[List.length_nil];omega⟩ (aZe hm h0)
theorem bHh{m k:Int}{r:Dl20Rd}(R:Rdr m r)(h0:0<=m)(hm:m<=900000)(k0:0<=k)(k1:k<=3):Ex (Option.bind (iter tU (r.b,r.p,[],k)) LO.val) (λj=>∃t,j= .go t/\(Rdr (m+6) ⟨t.1,t.2.1⟩/\t.2.2.length<=3)):=aWx R h0 hm k0 k1
structure Tiny (b : DBare) : Prop where
 regs:b.C.Regs.length<=4
 mem:b.Mem.length<=64
 i:b.In.length<=31
 o:b.Out.length<=31
theorem Tiny.small{b:DBare}(h:Tiny b):SmallB b:=⟨⟨by have:=h.regs;omega⟩,by have:=h.mem;omega,by have:=h.i;omega,by have:=h.o;omega⟩
theorem bMt{m n:Int}{r:Dl20Rd}(R:Rdr m r)(h0:0<=m)(hm:m<=700000):Ex (oL r n) (λv=>Rdr (m+3000) v.1/\Tiny v.2/\(n<=0->v.2.Mem.length=64)):=by unfold oL;refine Ex.bind (bBy R h0 (by omega)) λv1 ⟨R1,c1⟩=>?_;refine Ex.bind (bLx R1 (by omega) (by omega)) λv2 ⟨R2,c2⟩=>?_;refine Ex.join (Ex.bind (aK R2 (by omega) (by omega)) λv13 ⟨R13,a13,b13⟩=>aWx R13 (by omega) (by omega) a13 (by omega)) λs3 ⟨R3,c3⟩=>?_;unfold vM;refine Ex.join (Ex.bind (aK R3 (by omega) (by omega)) λv10 ⟨R10,a10,b10⟩=>bHh R10 (by omega) (by omega) a10 (by omega)) λs4 ⟨R4,c4⟩=>?_;unfold vI;refine Ex.join (P:=λs5:List Int×Int×Int×Int×Int×Bool×Int×Int×Int×Bool×Bool×Bool×Bool×List Int×Int×List Int×List Int=>Rdr (m+3000) ⟨s5.2.2.2.2.2.2.2.2.2.2.2.2.2.1,s5.2.2.2.2.2.2.2.2.2.2.2.2.2.2.1⟩/\s5.1.length<=4/\s5.2.2.2.2.2.2.2.2.2.2.2.2.2.2.2.1.length<=64/\s5.2.2.2.2.2.2.2.2.2.2.2.2.2.2.2.2.length<=31/\(n<=0->s5.2.2.2.2.2.2.2.2.2.2.2.2.2.2.2.1.length=64)) ?_ λs5 ⟨h5,g1,g2,g3,g4⟩=>Ex.ret ⟨h5,⟨g1,g2,g3,by show s4.2.2.length<=31;omega⟩,g4⟩;have c2':v2.2.length<=64:=(by omega);refine Ex.bind (bBb R4 (by omega)) λv6 ⟨R6,o6⟩=>?_;refine Ex.cond (λhv=>?_) λ_=>Ex.ret ⟨_,rfl,R6.up (by omega),c1,c2',by simp only;omega,λ_=>c2⟩;refine Ex.bind (aK R6 (by omega) (by omega)) λv7 ⟨R7,a7,b7⟩=>?_;refine Ex.cond (λ_=>?_) λ_=>?_;{exact Ex.bind (bBy R7 (by omega) (by omega)) λv8 ⟨R8,c8⟩=>Ex.ret ⟨_,rfl,R8.up (by omega),c8,c2',by simp only;omega,λhn=>by rw[o6 hn]at hv;cases hv⟩};{refine Ex.cond (λ_=>?_) λ_=>?_;{exact Ex.bind (bIk R7 (by omega) (by omega)) λv8 ⟨R8,c8,_⟩=>Ex.ret ⟨_,rfl,R8.up (by omega),c1,c8,by simp only;omega,λhn=>by rw[o6 hn]at hv;cases hv⟩};{exact Ex.ret ⟨_,rfl,R7.up (by omega),c1,c2',by simp,λhn=>by rw[o6 hn]at hv;cases hv⟩}}
structure LG (g : DGuest) : Prop where
 small:SmallG g
 pages:g.Live=true->g.Pages.length=8
structure LH (gs : List DGuest) : Prop where
 three:gs.length=3
 all:∀g∈gs,LG g
theorem LH.set{gs:List DGuest}{i:Nat}{x:DGuest}(h:LH gs)(hx:LG x):LH (gs.set i x):=by refine⟨by rw[lS];exact h.three,λg hg=>?_⟩;rcases List.mem_or_eq_of_mem_set hg with hg|rfl;{exact h.all g hg};{exact hx}
theorem LH.get{gs:List DGuest}(h:LH gs){i:Nat}(hi:i<3):LG (gs.getD i default):=h.all _ (cB (by rw[h.three];exact hi))
theorem LH.host{gs:List DGuest}{ws:List Int}(h:LH gs)(hw:ws.length=160):SmallH ⟨ws,gs⟩:=⟨by simp only[hw];omega,by simp only[h.three];omega,λg hg=>(h.all g hg).small⟩
theorem bKm{h:DHost}{b:DBare}(hb:(M.hostBoot h b).2.2=true)(hs:SmallB b)(hl:LH h.Guests):(M.hostBoot h b).1.Words.length=160/\LH (M.hostBoot h b).1.Guests:=by unfold M.hostBoot at hb ⊢;(cases hc:(M.hostOk h&&M.bareOk b&&(!decide (M.gone h.Guests=-1)&&decide (M.used b.Mem 8<=(M.free (M.slots h.Guests)).length)))with|false=>rw[hc]at hb;cases hb|true=>simp only[bA,decide_eq_true_eq]at hc;have hk:=fF.1 hc.1.1;simp only[cTq,M.booted];exact⟨xL hk.len (by omega) hc.2.2,hl.set ⟨⟨hs.c,by simp[M.slotsFor],hs.i,hs.o⟩,λ_=>by simp[M.slotsFor]⟩⟩)
abbrev S18:=List Int×Int×List Int×List DGuest×List Int×Int×Int×Int×Int×Bool×Int×Int×Int×Bool×Bool×Bool×Bool×List Int×List Int×List Int×Int
abbrev S19:=List Int×Int×List Int×List DGuest×List Int×Int×Int×Int×Int×Bool×Int×Int×Int×Bool×Bool×Bool×Bool×List Int×List Int×List Int
theorem bBq{m:Int}(hm:m<=900000)(h0:0<=m)(s:List Int×Int×List Int×Int)(hs:0<=s.2.2.2/\s.2.2.2<=160/\Rdr (m+3*s.2.2.2) ⟨s.1,s.2.1⟩/\s.2.2.1.length=160):
 Ex (nP s) (λo=>(∃s',o= .next s'/\(0<=s'.2.2.2/\s'.2.2.2<=160/\Rdr (m+3*s'.2.2.2) ⟨s'.1,s'.2.1⟩/\s'.2.2.1.length=160)/\160-s'.2.2.2.toNat<160-s.2.2.2.toNat)\/∃t,o= .ret (.go t)/\(Rdr (m+480) ⟨t.1,t.2.1⟩/\t.2.2.length=160)):=by
 obtain⟨b,p,ws,k⟩:=s;obtain⟨k0,k1,R,hl⟩:=hs;simp only at k0 k1 R hl;unfold nP;refine Ex.cond (λhk=>?_) λhk=>?_
 · have hk:k<(ws.length:Int):=of_decide_eq_true hk
   refine Ex.join (P:=λs:List Int×Int×List Int=>Rdr (m+3*k+3) ⟨s.1,s.2.1⟩/\s.2.2.length=160) ?_ λs ⟨R1,h1⟩=>?_;{refine Ex.bind (aK R (by omega) (by omega)) λv ⟨R1,_,_⟩=>?_;refine Ex.cond (λ_=>?_) λ_=>Ex.ret ⟨_,rfl,R1.up (by omega),hl⟩;refine Ex.bind (aLk R1 (by omega)) λv ⟨R2,_,_⟩=>?_;exact Ex.grd ⟨k0,hk⟩ (Ex.ret ⟨_,rfl,R2.up (by omega),by simp only[lS];exact hl⟩)}
   · unfold uC
     refine Ex.ret (.inl ⟨_,rfl,⟨?_,?_,?_,?_⟩,?_⟩);all_goals simp only[aC (z:=k+1) (by omega) (by omega)]
     {omega};{omega};{exact R1.up (by omega)};{exact h1};{omega}
 {have hk:¬k<(ws.length:Int):=of_decide_eq_false hk;exact Ex.ret (.inr ⟨_,rfl,R.up (by omega),hl⟩)}
theorem bHm{m:Int}{s18:S18}(hm:m<=900000)(h0:0<=m)(hsame:s18.2.2.2.2.2.2.2.2.2.2.2.2.2.2.2.2.2.1.length=0\/s18.2.2.2.2.2.2.2.2.2.2.2.2.2.2.2.2.2.1.length=64)(s:List Int×Int×List Int×Int)(hs:0<=s.2.2.2/\s.2.2.2<=8/\Rdr (m+2*s.2.2.2) ⟨s.1,s.2.1⟩/\s.2.2.1.length=64):
 Ex (nI s18 s) (λo=>(∃s',o= .next s'/\(0<=s'.2.2.2/\s'.2.2.2<=8/\Rdr (m+2*s'.2.2.2) ⟨s'.1,s'.2.1⟩/\s'.2.2.1.length=64)/\8-s'.2.2.2.toNat<8-s.2.2.2.toNat)\/∃t,o= .ret (.go t)/\(Rdr (m+16) ⟨t.1,t.2.1⟩/\t.2.2.length=64)):=by
 obtain⟨b,p,mem,k⟩:=s;obtain⟨k0,k1,R,hl⟩:=hs;simp only at k0 k1 R hl;unfold nI;refine Ex.cond (λhk=>?_) λhk=>?_
 · have hk:k<8:=of_decide_eq_true hk
   have e1:w64 (k*8)=k*8:=aC (by omega) (by omega);have e2:w64 ((w64 (k+1))*8)=(k+1)*8:=(by rw[aC (z:=k+1) (by omega) (by omega),aC (by omega) (by omega)]);refine Ex.join (P:=λs:List Int×Int×List Int=>Rdr (m+2*k+2) ⟨s.1,s.2.1⟩/\s.2.2.length=64) ?_ λs ⟨R1,h1⟩=>?_;{refine Ex.join (P:=λs:List Int×Int×List Int=>Rdr (m+2*k+1) ⟨s.1,s.2.1⟩/\s.2.2.length=64) ?_ λs ⟨R1,h1⟩=>?_;{refine Ex.cond (λ_=>?_) λ_=>Ex.ret ⟨_,rfl,R.up (by omega),hl⟩;refine Ex.bind (aK R (by omega) (by omega)) λv ⟨R1,_,_⟩=>?_;refine Ex.cond (λ_=>?_) λ_=>Ex.ret ⟨_,rfl,R1,hl⟩;simp only[e1];exact Ex.grd ⟨by omega,by omega,by omega⟩ (Ex.ret ⟨_,rfl,R1,by simp only[aBu,List.length_replicate];omega⟩)};{unfold uT;refine Ex.cond (λhz=>?_) λ_=>Ex.ret ⟨_,rfl,R1.up (by omega),h1⟩;have hz:=of_decide_eq_true hz;have h64:=hsame.resolve_left (by omega);refine Ex.bind (aK R1 (by omega) (by omega)) λv ⟨R2,_,_⟩=>?_;refine Ex.cond (λ_=>?_) λ_=>Ex.ret ⟨_,rfl,R2.up (by omega),h1⟩;simp only[e1,e2];exact Ex.grd ⟨by omega,by omega,by omega⟩ (Ex.grd ⟨by omega,by omega,by omega⟩ (Ex.ret ⟨_,rfl,R2.up (by omega),by simp only[aBu,List.length_take,List.length_drop];omega⟩))}}
   · unfold tW
     refine Ex.ret (.inl ⟨_,rfl,⟨?_,?_,?_,?_⟩,?_⟩);all_goals simp only[aC (z:=k+1) (by omega) (by omega)]
     {omega};{omega};{exact R1.up (by omega)};{exact h1};{omega}
 {have hk:¬k<8:=of_decide_eq_false hk;exact Ex.ret (.inr ⟨_,rfl,R.up (by omega),hl⟩)}
theorem bCc{m:Int}(hm:m<=600000)(h0:0<=m)(s:S18)(hs:0<=s.2.2.2.2.2.2.2.2.2.2.2.2.2.2.2.2.2.2.2.2/\s.2.2.2.2.2.2.2.2.2.2.2.2.2.2.2.2.2.2.2.2<=3/\Rdr (m+3100*(3-s.2.2.2.2.2.2.2.2.2.2.2.2.2.2.2.2.2.2.2.2)) ⟨s.1,s.2.1⟩/\s.2.2.1.length=160/\LH s.2.2.2.1/\(s.2.2.2.2.2.2.2.2.2.2.2.2.2.2.2.2.2.1.length=0\/s.2.2.2.2.2.2.2.2.2.2.2.2.2.2.2.2.2.1.length=64)):
 Ex (nG s) (λo=>(∃s',o= .next s'/\(0<=s'.2.2.2.2.2.2.2.2.2.2.2.2.2.2.2.2.2.2.2.2/\s'.2.2.2.2.2.2.2.2.2.2.2.2.2.2.2.2.2.2.2.2<=3/\Rdr (m+3100*(3-s'.2.2.2.2.2.2.2.2.2.2.2.2.2.2.2.2.2.2.2.2)) ⟨s'.1,s'.2.1⟩/\s'.2.2.1.length=160/\LH s'.2.2.2.1/\(s'.2.2.2.2.2.2.2.2.2.2.2.2.2.2.2.2.2.1.length=0\/s'.2.2.2.2.2.2.2.2.2.2.2.2.2.2.2.2.2.1.length=64))/\s'.2.2.2.2.2.2.2.2.2.2.2.2.2.2.2.2.2.2.2.2.toNat<s.2.2.2.2.2.2.2.2.2.2.2.2.2.2.2.2.2.2.2.2.toNat)\/∃t,o= .ret (.go t)/\(Rdr (m+9300) ⟨t.1,t.2.1⟩/\t.2.2.1.length=160/\LH t.2.2.2)):=by
 obtain⟨b,p,ws,gs,a5,a6,a7,a8,a9,a10,a11,a12,a13,a14,a15,a16,a17,mem,a19,a20,k⟩:=s;obtain⟨k0,k1,R,hw,hg,hmem⟩:=hs;simp only at k0 k1 R hw hg hmem;unfold nG;refine Ex.cond (λhk=>?_) λhk=>?_
 · have hk:0<k:=of_decide_eq_true hk
   refine Ex.join (P:=λs:S19=>Rdr (m+3100*(3-k)+3100) ⟨s.1,s.2.1⟩/\s.2.2.1.length=160/\LH s.2.2.2.1/\s.2.2.2.2.2.2.2.2.2.2.2.2.2.2.2.2.2.1.length=64) ?_ λs ⟨R1,h1,h2,h3⟩=>?_;{refine Ex.bind (bMt R (by omega) (by omega)) λv ⟨R2,t2,l2⟩=>?_;have l2:=l2 (by omega);refine Ex.join (Ex.loopv (λs:List Int×Int×List Int×Int=>0<=s.2.2.2/\s.2.2.2<=8/\Rdr (m+3100*(3-k)+3000+2*s.2.2.2) ⟨s.1,s.2.1⟩/\s.2.2.1.length=64) (λs=>8-s.2.2.2.toNat) (λt:List Int×Int×List Int=>Rdr (m+3100*(3-k)+3000+16) ⟨t.1,t.2.1⟩/\t.2.2.length=64) ⟨by simp,by simp,R2.up (by simp),l2⟩ (bHm (by omega) (by omega) hmem)) λs ⟨R3,h3⟩=>?_;unfold uE;have hsb:SmallB (DBare.mk v.2.C s.2.2 v.2.In v.2.Out):=⟨t2.small.c,by simp only[h3];omega,t2.small.i,t2.small.o⟩;rw[aYz (hg.host hw) hsb,oB];refine Ex.cond (λhb=>?_) λ_=>Ex.ret ⟨_,rfl,R3.up (by omega),hw,hg,h3⟩;obtain⟨q1,q2⟩:=bKm hb hsb hg;exact Ex.ret ⟨_,rfl,R3.up (by omega),q1,q2,h3⟩}
   · unfold uL
     refine Ex.ret (.inl ⟨_,rfl,⟨?_,?_,?_,h1,h2,.inr h3⟩,?_⟩);all_goals simp only[aC (z:=k-1) (by omega) (by omega)]
     {omega};{omega};{exact R1.up (by omega)};{omega}
 {have hk:¬0<k:=of_decide_eq_false hk;exact Ex.ret (.inr ⟨_,rfl,R.up (by omega),hw,hg⟩)}
theorem aYq{m:Int}(hm:m<=900000)(h0:0<=m)(s:List Int×Int×List DGuest×Int)(hs:0<=s.2.2.2/\s.2.2.2<=3/\Rdr (m+5*(3-s.2.2.2)) ⟨s.1,s.2.1⟩/\LH s.2.2.1):
 Ex (nL s) (λo=>(∃s',o= .next s'/\(0<=s'.2.2.2/\s'.2.2.2<=3/\Rdr (m+5*(3-s'.2.2.2)) ⟨s'.1,s'.2.1⟩/\LH s'.2.2.1)/\s'.2.2.2.toNat<s.2.2.2.toNat)\/∃t,o= .ret (.go t)/\(Rdr (m+15) ⟨t.1,t.2.1⟩/\LH t.2.2)):=by
 obtain⟨b,p,gs,k⟩:=s;obtain⟨k0,k1,R,hg⟩:=hs;simp only at k0 k1 R hg;have h3:=hg.three;unfold nL;refine Ex.cond (λhk=>?_) λhk=>?_
 · have hk:0<k:=of_decide_eq_true hk
   refine Ex.join (P:=λs:List Int×Int×List DGuest=>Rdr (m+5*(3-k)+5) ⟨s.1,s.2.1⟩/\LH s.2.2) ?_ λs ⟨R1,h1⟩=>?_
   · refine Ex.bind (aK R (by omega) (by omega)) λv12 ⟨R12,a12,b12⟩=>?_
     refine Ex.bind (aK R12 (by omega) (by omega)) λv13 ⟨R13,a13,b13⟩=>?_;refine Ex.bind (aK R13 (by omega) (by omega)) λv14 ⟨R14,a14,b14⟩=>?_;have lA:=hg.get (i:=v12.2.toNat) (by omega);have lB:=hg.get (i:=v13.2.toNat) (by omega);have gA:(0:Int)<=v12.2/\v12.2<((gs.length:Nat):Int):=⟨a12,by omega⟩;have gB:(0:Int)<=v13.2/\v13.2<((gs.length:Nat):Int):=⟨a13,by omega⟩;refine Ex.grd gA (Ex.cond (λhA=>?_) λ_=>Ex.ret ⟨_,rfl,R14.up (by omega),hg⟩);refine Ex.grd gB (Ex.cond (λhB=>?_) λ_=>Ex.ret ⟨_,rfl,R14.up (by omega),hg⟩);have pA:=lA.pages hA;have pB:=lB.pages hB;have gP:(0:Int)<=v14.2/\v14.2<(((gs.getD v12.2.toNat default).Pages.length:Nat):Int):=⟨a14,by omega⟩;refine Ex.grd gA (Ex.grd gP (Ex.cond (λ_=>?_) λ_=>Ex.ret ⟨_,rfl,R14.up (by omega),hg⟩));refine Ex.grd gA (Ex.grd gP (Ex.grd gB (Ex.bind (aK R14 (by omega) (by omega)) λv15 ⟨R15,a15,b15⟩=>?_)));generalize hx:(DGuest.mk (gs.getD v12.2.toNat default).Live (gs.getD v12.2.toNat default).C ((gs.getD v12.2.toNat default).Pages.set v14.2.toNat (DSlot.mk ((gs.getD v12.2.toNat default).Pages.getD v14.2.toNat default).Frame false ((gs.getD v12.2.toNat default).Pages.getD v14.2.toNat default).Dirty)) (gs.getD v12.2.toNat default).In (gs.getD v12.2.toNat default).Out)=x;have lx:LG x:=(by subst hx;exact⟨⟨⟨lA.small.c.regs⟩,by simpa only[lS]using lA.small.pages,lA.small.i,lA.small.o⟩,λ_=>by simpa only[lS]using pA⟩);have xl:x.Live=true:=(by subst hx;exact hA);have xp:x.Pages.length=(gs.getD v12.2.toNat default).Pages.length:=(by subst hx;exact lS);have gP2:(0:Int)<=v14.2/\v14.2<((((gs.set v12.2.toNat x).getD v12.2.toNat default).Pages.length:Nat):Int):=(by rw[aW (by rw[lS];omega),List.getElem_set_self,xp];exact gP);refine Ex.grd gA (Ex.grd gP2 (Ex.bind (aK R15 (by omega) (by omega)) λv16 ⟨R16,a16,b16⟩=>?_));have hg2:=hg.set (i:=v12.2.toNat) lx;have lB2:=hg2.get (i:=v13.2.toNat) (by omega)
     have hB2:((gs.set v12.2.toNat x).getD v13.2.toNat default).Live=true:=by
      by_cases e:v12.2.toNat=v13.2.toNat
      {rw[e];rw[aW (by rw[lS];omega),List.getElem_set_self];exact xl};{rw[aW (by rw[lS];omega),List.getElem_set_ne e,<-aW];exact hB}
     have pB2:=lB2.pages hB2;have gQ:(0:Int)<=v15.2/\v15.2<((((gs.set v12.2.toNat x).getD v13.2.toNat default).Pages.length:Nat):Int):=⟨a15,by omega⟩;refine Ex.grd gQ (Ex.ret ⟨_,rfl,R16.up (by omega),?_⟩);exact hg2.set ⟨⟨⟨lB2.small.c.regs⟩,by simpa only[lS]using lB2.small.pages,lB2.small.i,lB2.small.o⟩,λ_=>by simpa only[lS]using pB2⟩
   · unfold tR
     refine Ex.ret (.inl ⟨_,rfl,⟨?_,?_,?_,h1⟩,?_⟩);all_goals simp only[aC (z:=k-1) (by omega) (by omega)]
     {omega};{omega};{exact R1.up (by omega)};{omega}
 {have hk:¬0<k:=of_decide_eq_false hk;exact Ex.ret (.inr ⟨_,rfl,R.up (by omega),hg⟩)}
theorem bLp{m n:Int}{r:Dl20Rd}(R:Rdr m r)(h0:0<=m)(hm:m<=500000):Ex (oS r n) (λv=>Rdr (m+12000) v.1/\SmallH v.2):=by unfold oS;refine Ex.bind (P:=λv:DHost=>v.Words.length=160/\LH v.Guests) ⟨_,rfl,by simp,by simp,λg hg=>?_⟩ λv1 ⟨w1,g1⟩=>?_;{have:=List.eq_of_mem_replicate (show g∈List.replicate 3 M.noGuest from hg);rw[this];exact⟨⟨⟨by decide⟩,by decide,by decide,by decide⟩,λh=>by cases h⟩};refine Ex.join (Ex.loopv (λs:List Int×Int×List Int×Int=>0<=s.2.2.2/\s.2.2.2<=160/\Rdr (m+3*s.2.2.2) ⟨s.1,s.2.1⟩/\s.2.2.1.length=160) (λs=>160-s.2.2.2.toNat) (λt:List Int×Int×List Int=>Rdr (m+480) ⟨t.1,t.2.1⟩/\t.2.2.length=160) ⟨by simp,by simp,R.up (by simp),w1⟩ (bBq (by omega) h0)) λs2 ⟨R2,w2⟩=>?_;unfold vH;refine Ex.join (Ex.bind (aK R2 (by omega) (by omega)) λv17 ⟨R17,a17,b17⟩=>Ex.loopv (λs:S18=>0<=s.2.2.2.2.2.2.2.2.2.2.2.2.2.2.2.2.2.2.2.2/\s.2.2.2.2.2.2.2.2.2.2.2.2.2.2.2.2.2.2.2.2<=3/\Rdr (m+481+3100*(3-s.2.2.2.2.2.2.2.2.2.2.2.2.2.2.2.2.2.2.2.2)) ⟨s.1,s.2.1⟩/\s.2.2.1.length=160/\LH s.2.2.2.1/\(s.2.2.2.2.2.2.2.2.2.2.2.2.2.2.2.2.2.1.length=0\/s.2.2.2.2.2.2.2.2.2.2.2.2.2.2.2.2.2.1.length=64)) (λs=>s.2.2.2.2.2.2.2.2.2.2.2.2.2.2.2.2.2.2.2.2.toNat) (λt:List Int×Int×List Int×List DGuest=>Rdr (m+481+9300) ⟨t.1,t.2.1⟩/\t.2.2.1.length=160/\LH t.2.2.2) (by simp only[aC (z:=1+v17.2) (by omega) (by omega)];exact⟨by omega,by omega,R17.up (by omega),w2,g1,.inl rfl⟩) (bCc (by omega) (by omega))) λs3 ⟨R3,w3,g3⟩=>?_;unfold vQ;refine Ex.join (Ex.bind (aK R3 (by omega) (by omega)) λv9 ⟨R9,a9,b9⟩=>Ex.loopv (λs:List Int×Int×List DGuest×Int=>0<=s.2.2.2/\s.2.2.2<=3/\Rdr (m+481+9300+1+5*(3-s.2.2.2)) ⟨s.1,s.2.1⟩/\LH s.2.2.1) (λs=>s.2.2.2.toNat) (λt:List Int×Int×List DGuest=>Rdr (m+481+9300+1+15) ⟨t.1,t.2.1⟩/\LH t.2.2) ⟨a9,by simp only;omega,R9.up (by simp only;omega),g3⟩ (aYq (by omega) (by omega))) λs4 ⟨R4,g4⟩=>?_;have t4:=g4.three;unfold vS;refine Ex.join (P:=λs:List Int×List Int×Int×List DGuest=>Rdr (m+12000) ⟨s.2.1,s.2.2.1⟩/\SmallH ⟨s.1,s.2.2.2⟩) ?_ λs5 h5=>Ex.ret h5;refine Ex.bind (bAv R4 (by omega)) λv6 R6=>?_;refine Ex.cond (λ_=>?_) λ_=>Ex.ret ⟨_,rfl,R6.up (by omega),g4.host w3⟩;refine Ex.bind (aK R6 (by omega) (by omega)) λv7 ⟨R7,a7,b7⟩=>?_;refine Ex.cond (λ_=>?_) λ_=>?_;{refine Ex.bind (aK R7 (by omega) (by omega)) λv8 ⟨R8,a8,b8⟩=>?_;exact Ex.grd ⟨a8,by omega⟩ (Ex.ret ⟨_,rfl,R8.up (by omega),g4.host (by simpa only[lS]using w3)⟩)};{refine Ex.cond (λ_=>?_) λ_=>?_;{refine Ex.grd ⟨by omega,by omega,by omega⟩ (Ex.ret ⟨_,rfl,R7.up (by omega),⟨by simp only[w3];omega,by simp only[List.length_take];omega,λg hg=>?_⟩⟩);exact(g4.all g (List.mem_of_mem_take hg)).small};{refine Ex.cond (λ_=>?_) λ_=>?_;{exact Ex.grd ⟨by omega,by omega⟩ (Ex.ret ⟨_,rfl,R7.up (by omega),(g4.set ⟨⟨⟨by simp⟩,by simp,by simp,by simp⟩,λh=>by cases h⟩).host w3⟩)};{have l0:=g4.get (i:=0) (by omega);refine Ex.grd ⟨by omega,by omega⟩ (Ex.ret ⟨_,rfl,R7.up (by omega),⟨by simp only[w3];omega,by simp only[lS];omega,λg hg=>?_⟩⟩);rcases List.mem_or_eq_of_mem_set hg with hg|rfl;{exact(g4.all g hg).small};{exact⟨⟨l0.small.c.regs⟩,by simp,l0.small.i,l0.small.o⟩}}}}
theorem kD{xs ys:List Int}(h:xs.length<=9223372036854775806):cO xs ys=some (decide (xs=ys)):=by
 unfold cO;by_cases hl:xs.length=ys.length
 · have key:∀k:Int,(0<=k/\k<=(xs.length:Int))->iter (eQ xs ys) k=some (.ret (bif decide (xs.drop k.toNat=ys.drop k.toNat)then .go ()else .out false)):=by
    refine aTz _ (λk=>xs.length-k.toNat) _ ?_
    rintro k ⟨h0,h1⟩
    by_cases hk:k<xs.length
    · have e1:xs.drop k.toNat=xs.getD k.toNat default::xs.drop (k+1).toNat:=by
       rw[aW (by omega),show(k+1).toNat=k.toNat+1 by omega];exact List.drop_eq_getElem_cons (by omega)
      have e2:ys.drop k.toNat=ys.getD k.toNat default::ys.drop (k+1).toNat:=(by rw[aW (by omega),show(k+1).toNat=k.toNat+1 by omega];exact List.drop_eq_getElem_cons (by omega));have es:eQ xs ys k=cond (!decide (xs.getD k.toNat default=ys.getD k.toNat default)) (some (.ret (.out false))) (some (.next (k+1))):=(by unfold eQ;rw[dT hk,cTq,aB ⟨h0,hk⟩,aB ⟨h0,by omega⟩,aC (by omega) (by omega)]);by_cases he:xs.getD k.toNat default=ys.getD k.toNat default;{refine .inl ⟨k+1,by rw[es,dT he];rfl,⟨by omega,by omega⟩,by omega,?_⟩;rw[e1,e2,he];simp};{refine .inr ⟨λs'=>by rw[es,dF he];simp,?_⟩;rw[es,dF he,e1,e2];have:decide (xs.getD k.toNat default::xs.drop (k+1).toNat=ys.getD k.toNat default::ys.drop (k+1).toNat)=false:=dF λe=>he (List.cons.inj e).1;rw[this];rfl}
    {have hk2:k=xs.length:=(by omega);subst hk2;refine .inr ⟨?_,?_⟩;{intro s';simp[eQ]};{simp[eQ,hl]}}
   rw[key 0 ⟨by omega,by omega⟩];have:decide ((xs.length:Int)=(ys.length:Int))=true:=(by simp[hl]);rw[this];by_cases e:xs=ys;{subst e;simp[LO.val,JO.run,uB]};{simp[e,LO.val,JO.run]}
 {have:decide ((xs.length:Int)=(ys.length:Int))=false:=(by simp;omega);rw[this];have e:xs≠ys:=λe=>hl (by rw[e]);simp[e]}
theorem aCc{a:DCore}(h:a.Regs.length<=9223372036854775806):jV a a=some true:=by unfold jV;rw[kD h];simp
theorem aOq{a:DBare}(h:SmallB a):mN a a=some true:=by have:=h.c.regs;have:=h.mem;have:=h.i;have:=h.o;unfold mN;rw[aCc (by omega),kD (by omega),kD (by omega),kD (by omega)];simp
theorem aNb{g:DGuest}(h:SmallG g):iW g g=some true:=by
 have:=h.c.regs;have:=h.pages;have:=h.i;have:=h.o;unfold iW;rw[aCc (by omega),kD (by omega),kD (by omega)];simp only[beq_self_eq_true,bT,cFq,oB,decide_true]
 have key:=gE (n:=g.Pages.length) (step:=jH g g) (λi=>(i:Int)) (λ_=>true) (JO.go ()) (.out false) (λi hi _=>by
  simp only[jH,iT];rw[dT (p:=(i:Int)<_) (by omega),cTq,aB ⟨by omega,by omega⟩,aB ⟨by omega,by omega⟩,aC (by omega) (by omega)];simp only[beq_self_eq_true,decide_true,Bool.and_self,bT,cFq,cTq];rfl) (λ_=>by
  simp only[jH];rw[dF (by omega),cFq])
 have e:(List.range g.Pages.length).all (λ_=>true)=true:=(by simp);rw[e]at key;rw[show(0:Int)=((0:Nat):Int)from rfl,key];rfl
theorem aOs{h:DHost}(hs:SmallH h):mY h h=some true:=by
 have:=hs.words;have:=hs.guests;unfold mY;rw[kD (by omega)];simp only[bT,cFq,oB,decide_true]
 have key:=gE (n:=h.Guests.length) (step:=jZ h h) (λi=>(i:Int)) (λ_=>true) (JO.go ()) (.out false) (λi hi _=>by
  simp only[jZ,iT];rw[dT (p:=(i:Int)<_) (by omega),cTq,aB ⟨by omega,by omega⟩,aB ⟨by omega,by omega⟩];show Option.bind (iW (h.Guests.getD i default) (h.Guests.getD i default)) _=_;rw[aNb (hs.all _ (cB hi)),oB,aC (by omega) (by omega)];rfl) (λ_=>by
  simp only[jZ];rw[dF (by omega),cFq])
 have e:(List.range h.Guests.length).all (λ_=>true)=true:=(by simp);rw[e]at key;rw[show(0:Int)=((0:Nat):Int)from rfl,key];rfl
theorem bAu:SmallG M.noGuest:=⟨⟨by decide⟩,by decide,by decide,by decide⟩
theorem bOm{m:Int}{r:Dl20Rd}(R:Rdr m r)(h0:0<=m)(hm:m<=400000):Ex (pY r) (λv=>Rdr (m+12100) v.1/\SmallH v.2):=by unfold pY;refine Ex.bind (bLp R h0 (by omega)) λv1 ⟨R1,hs⟩=>?_;refine Ex.join (P:=λs:List Int×Int×List DGuest=>Rdr (m+12100) ⟨s.1,s.2.1⟩/\SmallH ⟨v1.2.Words,s.2.2⟩) ?_ λs h=>Ex.ret h;refine Ex.cond (λhc=>?_) λ_=>Ex.ret ⟨_,rfl,R1.up (by omega),hs⟩;have h3:=of_decide_eq_true hc;refine Ex.grd ⟨by omega,by omega⟩ (Ex.cond (λ_=>?_) λ_=>Ex.ret ⟨_,rfl,R1.up (by omega),hs⟩);refine Ex.bind (aK R1 (by omega) (by omega)) λv3 ⟨R3,_,_⟩=>?_;refine Ex.cond (λ_=>?_) λ_=>Ex.ret ⟨_,rfl,R3.up (by omega),hs⟩;refine Ex.grd ⟨by omega,by omega⟩ (Ex.ret ⟨_,rfl,R3.up (by omega),?_⟩);refine⟨hs.words,by rw[lS];exact hs.guests,λy hy=>?_⟩;rcases List.mem_or_eq_of_mem_set hy with hy|rfl;{exact hs.all y hy};{exact bAu}
theorem bPs{m:Int}{r:Dl20Rd}{h:DHost}(R:Rdr m r)(hm:m<=900000):Ex (rW r h) (λv=>Rdr (m+3) v.1):=by unfold rW;refine Ex.bind (aK R (by omega) (by omega)) λv1 ⟨R1,a1,b1⟩=>?_;refine Ex.join (P:=λs:List Int×Int×Int=>Rdr (m+2) ⟨s.1,s.2.1⟩) ?_ λs R2=>?_;{refine Ex.cond (λhc=>?_) λ_=>Ex.ret ⟨_,rfl,R1.up (by omega)⟩;have:=of_decide_eq_true hc;refine Ex.grd ⟨a1,by omega⟩ (Ex.cond (λ_=>?_) λ_=>Ex.ret ⟨_,rfl,R1.up (by omega)⟩);refine Ex.bind (aK R1 (by omega) (by omega)) λv4 ⟨R4,a4,b4⟩=>?_;exact Ex.cond (λ_=>Ex.ret ⟨_,rfl,R4.up (by omega)⟩) λ_=>Ex.ret ⟨_,rfl,R4.up (by omega)⟩};{unfold xX;exact Ex.bind (aK R2 (by omega) (by omega)) λv3 ⟨R3,a3,b3⟩=>Ex.ret (R3.up (by omega))}
def dec(w:Int):DEntry:=⟨decide (w%2=1),decide (w/2%2=1),decide (w/4%2=1),w/8%8⟩
theorem aIb(w:Int):0<=(dec w).Page/\(dec w).Page<=7:=by simp only[dec];omega
theorem nE{w k:Int}(h0:0<=w)(h1:w<=4095)(hk:1<=k):w64 (Int.tdiv w k)=w/k/\0<=w/k:=by have e:Int.tdiv w k=w/k:=Int.tdiv_eq_ediv_of_nonneg h0;have g0:0<=w/k:=Int.ediv_nonneg h0 (by omega);have g1:w/k<=w:=Int.ediv_le_self k h0;rw[e,aC (by omega) (by omega)];exact⟨rfl,g0⟩
theorem aGx{w:Int}(h0:0<=w)(h1:w<=4095):jF w=some (dec w):=by unfold jF;rw[aBp,show M.wordOk w=true from M.inR_iff.2 ⟨h0,h1⟩];simp only[oB,bT,cFq];rw[(nE h0 h1 (k:=1) (by omega)).1,(nE h0 h1 (k:=2) (by omega)).1,(nE h0 h1 (k:=4) (by omega)).1,(nE h0 h1 (k:=8) (by omega)).1,iM (nE h0 h1 (k:=1) (by omega)).2,iM (nE h0 h1 (k:=2) (by omega)).2,iM (nE h0 h1 (k:=4) (by omega)).2,iM (nE h0 h1 (k:=8) (by omega)).2,Int.ediv_one];rfl
namespace M
def lets(e:DEntry)(user write:Bool):Bool:=e.There&&(e.Write||!write)&&(e.User||!user)
def walk(mem:List Int)(root addr:Int)(user write:Bool):Int:=
 bif memOk mem&&inR (-1) 7 root&&inR 0 63 addr then
  bif decide (root=-1)then addr else
   bif lets (dec (mem.getD (root*8+addr/8).toNat default)) user write then(dec (mem.getD (root*8+addr/8).toNat default)).Page*8+addr%8 else-1
 else-1
end M
theorem yN{xs:List Int}(h:M.memOk xs=true):M.wordsOk xs=true:=(bA _ _▸h).2
theorem bOi(e:DEntry)(user write:Bool):fW e user write=some (M.lets e user write):=by obtain⟨t,w,u,p⟩:=e;unfold fW;cases t<;>cases w<;>cases u<;>cases user<;>cases write<;>rfl
theorem aTt{mem:List Int}{root addr:Int}{user write:Bool}(hl:mem.length<=9223372036854775806):mE mem root addr user write=some (M.walk mem root addr user write):=by unfold mE M.walk;rw[aVc hl,aSo,aGi];(cases hm:M.memOk mem with|false=>simp only[oB,bF,cTq,Bool.false_and,cFq]|true=>(cases hr:M.inR (-1) 7 root with|false=>simp only[oB,bF,bT,cTq,Bool.false_and,Bool.and_false,cFq]|true=>(cases ha:M.inR 0 63 addr with|false=>simp only[oB,bF,bT,cTq,Bool.false_and,Bool.and_false,cFq]|true=>have hr:=M.inR_iff.1 hr;have ha:=M.inR_iff.1 ha;have hlen:=aCp hm;simp only[oB,bT,cTq,cFq,Bool.and_self];by_cases h1:root=-1;{rw[dT h1];rfl};{have e1:Int.tdiv addr 8=addr/8:=Int.tdiv_eq_ediv_of_nonneg ha.1;have e2:Int.tmod addr 8=addr%8:=iM ha.1;rw[dF h1,cFq,cFq,e1,e2,aC (z:=root*8) (by omega) (by omega),aC (z:=addr/8) (by omega) (by omega),aC (z:=root*8+addr/8) (by omega) (by omega),aB ⟨by omega,by omega⟩];have hw:=iK (yN hm) (i:=(root*8+addr/8).toNat) (by omega);rw[aGx hw.1 hw.2];generalize mem.getD (root*8+addr/8).toNat default=w;have hp:=aIb w;simp only[oB,bOi];rw[aC (z:=(dec w).Page*8) (by omega) (by omega),aC (z:=(dec w).Page*8+addr%8) (by omega) (by omega)];cases M.lets (dec w) user write<;>rfl})))
theorem aZa(mem:List Int)(root addr:Int)(user write:Bool):M.walk mem root addr user write=-1\/
 (M.memOk mem=true/\(-1<=root/\root<=7)/\(0<=addr/\addr<=63)/\0<=M.walk mem root addr user write/\M.walk mem root addr user write<64/\M.walk mem root addr false false=M.walk mem root addr user write/\M.walk mem root addr user false=M.walk mem root addr user write/\M.walk mem root (addr-addr%8) user write=M.walk mem root addr user write-addr%8):=by
 by_cases hm:M.memOk mem=true
 · by_cases hr:M.inR (-1) 7 root=true
   · by_cases ha:M.inR 0 63 addr=true
     · have hr2:=M.inR_iff.1 hr
       have ha2:=M.inR_iff.1 ha;have hb:M.inR 0 63 (addr-addr%8)=true:=M.inR_iff.2 ⟨by omega,by omega⟩;by_cases h1:root=-1
       · have e:∀u w,M.walk mem root addr u w=addr:=λu w=>by simp only[M.walk,hm,hr,ha,dT h1,Bool.and_self,cTq]
         have e':∀u w,M.walk mem root (addr-addr%8) u w=addr-addr%8:=λu w=>by simp only[M.walk,hm,hr,hb,dT h1,Bool.and_self,cTq]
         rw[e,e,e,e'];exact .inr ⟨hm,hr2,ha2,by omega,by omega,rfl,rfl,rfl⟩
       · have e:∀u w,M.walk mem root addr u w=(bif M.lets (dec (mem.getD (root*8+addr/8).toNat default)) u w then(dec (mem.getD (root*8+addr/8).toNat default)).Page*8+addr%8 else-1):=λu w=>by
          simp only[M.walk,hm,hr,ha,dF h1,Bool.and_self,cTq,cFq]
         have e':∀u w,M.walk mem root (addr-addr%8) u w=(bif M.lets (dec (mem.getD (root*8+addr/8).toNat default)) u w then(dec (mem.getD (root*8+addr/8).toNat default)).Page*8 else-1):=λu w=>by simp only[M.walk,hm,hr,hb,dF h1,Bool.and_self,cTq,cFq];rw[show(addr-addr%8)/8=addr/8 by omega,show(addr-addr%8)%8=0 by omega];simp
         rw[e,e,e,e'];have hp:=aIb (mem.getD (root*8+addr/8).toNat default);generalize dec (mem.getD (root*8+addr/8).toNat default)=x at hp ⊢;(cases hx:M.lets x user write with|false=>exact .inl rfl|true=>have h2:M.lets x false false=true:=(by simp only[M.lets,bA,Bool.or_eq_true,bF,Bool.or_true,and_true]at hx ⊢;exact hx.1.1);have h3:M.lets x user false=true:=(by simp only[M.lets,bA,Bool.or_eq_true,bF,Bool.or_true,and_true]at hx ⊢;exact⟨hx.1.1,hx.2⟩);rw[h2,h3];simp only[cTq];exact .inr ⟨hm,hr2,ha2,by omega,by omega,by first|trivial|rfl,by first|trivial|rfl,by omega⟩)
     {exact .inl (by simp only[M.walk,Bool.eq_false_iff.2 ha,Bool.and_false,cFq])}
   {exact .inl (by simp only[M.walk,Bool.eq_false_iff.2 hr,Bool.and_false,Bool.false_and,cFq])}
 {exact .inl (by simp only[M.walk,Bool.eq_false_iff.2 hm,Bool.false_and,cFq])}
theorem qY(mem:List Int)(root addr:Int)(user write:Bool)(h:¬M.walk mem root addr user write=-1):0<=M.walk mem root addr user write/\M.walk mem root addr user write<64:=by rcases aZa mem root addr user write with h1|⟨_,_,_,h2,h3,_⟩;{exact absurd h1 h};{exact⟨h2,h3⟩}
namespace M
def reg(c:DCore)(k:Int):Int:=c.Regs.getD k.toNat default
def trap(c:DCore)(src cause bad:Int):DCore:=⟨c.Regs,c.Vector,c.Root,c.Vector,src,c.User,cause,bad,c.Timer,c.Waits,false,false,c.Stopped⟩
def tick(c:DCore):DCore:=bif decide (c.Timer=0)then c else⟨c.Regs,c.Pc,c.Root,c.Vector,c.Saved,c.SavedUser,c.Cause,c.Bad,c.Timer-1,(bif decide (c.Timer-1=0)then true else c.Waits),c.User,c.On,c.Stopped⟩
def ins(w:Int):DIns:=⟨w/256,w/64%4,w%64⟩
def kern(op:Int):Bool:=decide (op=0)||inR 8 14 op
def at_(c:DCore)(pc:Int):DCore:=⟨c.Regs,pc,c.Root,c.Vector,c.Saved,c.SavedUser,c.Cause,c.Bad,c.Timer,c.Waits,c.User,c.On,c.Stopped⟩
def go(c:DCore):DCore:=at_ c ((c.Pc+1)%64)
def put(c:DCore)(a w:Int):DCore:=⟨c.Regs.set a.toNat w,c.Pc,c.Root,c.Vector,c.Saved,c.SavedUser,c.Cause,c.Bad,c.Timer,c.Waits,c.User,c.On,c.Stopped⟩
def with_(b:DBare)(c:DCore):DBare:=⟨c,b.Mem,b.In,b.Out⟩
def root(w:Int):Int:=bif decide (w%16<8)then w%16 else-1
def first(xs:List Int):Int:=xs.getD 0 default
def cin(b:DBare)(k:Int):Int:=bif decide (k=1)then b.C.Cause else bif decide (k=2)then b.C.Bad else bif decide (k=3)then b.C.Saved else first b.In
def rest(xs:List Int)(k:Int):List Int:=bif decide (k=0)then xs.drop 1 else xs
def kdo(b:DBare)(i:DIns):DBare:=
 bif decide (i.Op=0)then with_ b ⟨b.C.Regs,b.C.Pc,b.C.Root,b.C.Vector,b.C.Saved,b.C.SavedUser,b.C.Cause,b.C.Bad,b.C.Timer,b.C.Waits,b.C.User,b.C.On,true⟩
 else bif decide (i.Op=8)then with_ b (go ⟨b.C.Regs,b.C.Pc,root (reg b.C i.A),b.C.Vector,b.C.Saved,b.C.SavedUser,b.C.Cause,b.C.Bad,b.C.Timer,b.C.Waits,b.C.User,b.C.On,b.C.Stopped⟩)
 else bif decide (i.Op=9)then with_ b (go ⟨b.C.Regs,b.C.Pc,b.C.Root,reg b.C i.A%64,b.C.Saved,b.C.SavedUser,b.C.Cause,b.C.Bad,b.C.Timer,b.C.Waits,b.C.User,b.C.On,b.C.Stopped⟩)
 else bif decide (i.Op=10)then with_ b (go ⟨b.C.Regs,b.C.Pc,b.C.Root,b.C.Vector,b.C.Saved,b.C.SavedUser,b.C.Cause,b.C.Bad,reg b.C i.A,b.C.Waits,b.C.User,b.C.On,b.C.Stopped⟩)
 else bif decide (i.Op=11)then with_ b ⟨b.C.Regs,b.C.Saved,b.C.Root,b.C.Vector,b.C.Saved,b.C.SavedUser,b.C.Cause,b.C.Bad,b.C.Timer,b.C.Waits,b.C.SavedUser,true,b.C.Stopped⟩
 else bif decide (i.Op=12)then with_ b (go ⟨b.C.Regs,b.C.Pc,b.C.Root,b.C.Vector,b.C.Saved,b.C.SavedUser,b.C.Cause,b.C.Bad,b.C.Timer,b.C.Waits,b.C.User,decide (i.N%2=1),b.C.Stopped⟩)
 else bif decide (i.Op=13)then⟨go b.C,b.Mem,b.In,bif decide (b.Out.length<30)then b.Out++[reg b.C i.A]else b.Out⟩
 else⟨go (put b.C i.A (cin b (i.N%4))),b.Mem,rest b.In (i.N%4),b.Out⟩
def plain(c:DCore)(i:DIns):DCore:=
 bif decide (i.Op=1)then go (put c i.A i.N)
 else bif decide (i.Op=2)then go (put c i.A ((reg c i.A+reg c (i.N%4))%4096))
 else bif decide (i.Op=15)then go (put c i.A ((reg c i.A-reg c (i.N%4)+4096)%4096))
 else bif decide (i.Op=5)then at_ c i.N
 else bif decide (i.Op=6)then bif decide (reg c i.A=0)then go c else at_ c i.N
 else trap c ((c.Pc+1)%64) 1 0
def mdo(b:DBare)(i:DIns):DBare:=
 bif decide (walk b.Mem b.C.Root (reg b.C (i.N%4)%64) b.C.User (decide (i.Op=4))=-1)then with_ b (trap b.C b.C.Pc 2 (reg b.C (i.N%4)%64))
 else bif decide (i.Op=3)then with_ b (go (put b.C i.A (b.Mem.getD (walk b.Mem b.C.Root (reg b.C (i.N%4)%64) b.C.User false).toNat default)))
 else⟨go b.C,b.Mem.set (walk b.Mem b.C.Root (reg b.C (i.N%4)%64) b.C.User true).toNat (reg b.C i.A),b.In,b.Out⟩
def did(b:DBare)(i:DIns):DBare:=
 bif kern i.Op then bif b.C.User then with_ b (trap b.C b.C.Pc 3 0)else kdo b i
 else bif decide (i.Op=3)||decide (i.Op=4)then mdo b i else with_ b (plain b.C i)
def quiet(c:DCore):DCore:=⟨c.Regs,c.Pc,c.Root,c.Vector,c.Saved,c.SavedUser,c.Cause,c.Bad,c.Timer,false,c.User,c.On,c.Stopped⟩
def step(b:DBare):DBare:=
 bif b.C.Stopped then b
 else bif (tick b.C).Waits&&(tick b.C).On then with_ b (trap (quiet (tick b.C)) (tick b.C).Pc 4 0)
 else bif decide (walk b.Mem (tick b.C).Root (tick b.C).Pc (tick b.C).User false=-1)then with_ b (trap (tick b.C) (tick b.C).Pc 2 (tick b.C).Pc)
 else did (with_ b (tick b.C)) (ins (b.Mem.getD (walk b.Mem (tick b.C).Root (tick b.C).Pc (tick b.C).User false).toNat default))
end M
theorem bJj(x:DIns):rP x=some (M.insOk x):=by unfold rP;simp only[M.insOk,M.inR];rw[show(4:Int)=3+1 from rfl,show(64:Int)=63+1 from rfl,aPc,aPc];cases decide (0<=x.Op)<;>cases decide (0<=x.A)<;>cases decide (0<=x.N)<;>cases decide (x.Op<=15)<;>cases decide (x.A<=3)<;>cases decide (x.N<=63)<;>rfl
theorem aHn{k:Int}(h0:0<=k)(h1:k<=15):k=0\/k=1\/k=2\/k=3\/k=4\/k=5\/k=6\/k=7\/k=8\/k=9\/k=10\/k=11\/k=12\/k=13\/k=14\/k=15:=by omega
theorem aGw{x:DIns}(h:M.insOk x=true):jC x=some (M.kern x.Op):=by unfold jC;rw[bJj,h];obtain⟨op,a,n⟩:=x;simp only[M.insOk,bA,M.inR_iff]at h;rcases aHn h.1.1.1 h.1.1.2 with e|e|e|e|e|e|e|e|e|e|e|e|e|e|e|e<;>subst e<;>rfl
theorem aDp{w:Int}(h0:0<=w)(h1:w<=4095):iP w=some (M.ins w):=by unfold iP;rw[aBp,show M.wordOk w=true from M.inR_iff.2 ⟨h0,h1⟩];simp only[oB,bT,cFq];rw[(nE h0 h1 (k:=256) (by omega)).1,(nE h0 h1 (k:=64) (by omega)).1,iM (nE h0 h1 (k:=64) (by omega)).2,iM h0];rfl
theorem aCl{w:Int}(h0:0<=w)(h1:w<=4095):M.insOk (M.ins w)=true:=by simp only[M.insOk,M.ins,bA,M.inR_iff];omega
structure BOk (b : DBare) : Prop where
 regs:b.C.Regs.length=4
 words:M.wordsOk b.C.Regs=true
 pc:0<=b.C.Pc/\b.C.Pc<=63
 vec:0<=b.C.Vector/\b.C.Vector<=63
 sav:0<=b.C.Saved/\b.C.Saved<=63
 bad:0<=b.C.Bad/\b.C.Bad<=63
 root:-1<=b.C.Root/\b.C.Root<=7
 cause:0<=b.C.Cause/\b.C.Cause<=4
 timer:0<=b.C.Timer/\b.C.Timer<=4095
 mem:M.memOk b.Mem=true
 inn:b.In.length<=30
 inw:M.wordsOk b.In=true
 out:b.Out.length<=30
 outw:M.wordsOk b.Out=true
theorem aFp{b:DBare}:M.bareOk b=true↔BOk b:=by
 simp only[M.bareOk,M.coreOk,M.rowOk,M.wordOk,bA,decide_eq_true_eq,M.inR_iff];constructor
 · rintro⟨⟨⟨⟨⟨⟨⟨⟨a1,a2⟩,⟨⟨a3,a4⟩,a5⟩,a6⟩,a7⟩,a8⟩,a9⟩,a10⟩,a11,a12⟩,a13,a14⟩
   exact⟨a1,a2,a3,a4,a5,a6,a7,a8,a9,a10,a11,a12,a13,a14⟩
 · rintro⟨a1,a2,a3,a4,a5,a6,a7,a8,a9,a10,a11,a12,a13,a14⟩
   exact⟨⟨⟨⟨⟨⟨⟨⟨a1,a2⟩,⟨⟨a3,a4⟩,a5⟩,a6⟩,a7⟩,a8⟩,a9⟩,a10⟩,a11,a12⟩,a13,a14⟩
theorem BOk.len{b:DBare}(h:BOk b):b.Mem.length=64:=aCp h.mem
theorem BOk.reg{b:DBare}(h:BOk b){k:Int}(h0:0<=k)(h1:k<4):0<=M.reg b.C k/\M.reg b.C k<=4095:=iK h.words (by have:=h.regs;omega)
structure KOk (b : DBare) : Prop where
 regs:b.C.Regs.length=4
 words:M.wordsOk b.C.Regs=true
 pc:0<=b.C.Pc/\b.C.Pc<=63
 vec:0<=b.C.Vector/\b.C.Vector<=63
 sav:0<=b.C.Saved/\b.C.Saved<=63
 bad:0<=b.C.Bad/\b.C.Bad<=63
 root:-1<=b.C.Root/\b.C.Root<=7
 cause:0<=b.C.Cause/\b.C.Cause<=4
 timer:0<=b.C.Timer/\b.C.Timer<=4095
 inn:b.In.length<=30
 inw:M.wordsOk b.In=true
 out:b.Out.length<=30
 outw:M.wordsOk b.Out=true
theorem BOk.k{b:DBare}(h:BOk b):KOk b:=⟨h.regs,h.words,h.pc,h.vec,h.sav,h.bad,h.root,h.cause,h.timer,h.inn,h.inw,h.out,h.outw⟩
theorem KOk.reg{b:DBare}(h:KOk b){k:Int}(h0:0<=k)(h1:k<4):0<=M.reg b.C k/\M.reg b.C k<=4095:=iK h.words (by have:=h.regs;omega)
theorem KOk.to{b b':DBare}(h:KOk b)(h1:b'.C=b.C)(h2:b'.In=b.In)(h3:b'.Out=b.Out):KOk b':=by obtain⟨c,m,i,o⟩:=b';simp only at h1 h2 h3;subst h1 h2 h3;exact⟨h.regs,h.words,h.pc,h.vec,h.sav,h.bad,h.root,h.cause,h.timer,h.inn,h.inw,h.out,h.outw⟩
section
variable {b : DBare} {op a n : Int}
theorem KOk.gA(hb:KOk b)(h0:0<=a)(h1:a<=3):0<=a/\a<((b.C.Regs.length:Nat):Int):=by have:=hb.regs;omega
theorem aZr(h0:0<=n):Int.tmod n 4=n%4:=iM h0
theorem tP(hb:KOk b)(h0:0<=n):cC b.C ⟨op,a,n⟩=some (M.reg b.C (n%4)%64):=by unfold cC;simp only[aZr h0];rw[aB (hb.gA (by omega) (by omega)),show b.C.Regs.getD (n%4).toNat default=M.reg b.C (n%4)from rfl,iM (hb.reg (by omega) (by omega)).1]
end
theorem aHu{c:DCore}(h0:0<=c.Timer)(h1:c.Timer<=4095):fG c=some (M.tick c):=by unfold fG M.tick xK;rw[aC (z:=c.Timer-1) (by omega) (by omega)];cases decide (c.Timer=0)<;>cases decide (c.Timer-1=0)<;>rfl
theorem sC(c:DCore):dP c=some (c.Waits&&c.On):=by unfold dP;cases c.Waits<;>rfl
namespace M
def bPg:DCore:=⟨[],0,0,0,0,false,0,0,0,false,false,false,false⟩
def zero:DBare:=⟨bPg,[],[],[]⟩
end M
section
variable {b : DBare} {op a n : Int}
theorem BOk.tick(hb:BOk b):BOk (M.with_ b (M.tick b.C)):=by have ht:=hb.timer;unfold M.tick;by_cases e:b.C.Timer=0;{rw[dT e];exact⟨hb.regs,hb.words,hb.pc,hb.vec,hb.sav,hb.bad,hb.root,hb.cause,hb.timer,hb.mem,hb.inn,hb.inw,hb.out,hb.outw⟩};{rw[dF e];exact⟨hb.regs,hb.words,hb.pc,hb.vec,hb.sav,hb.bad,hb.root,hb.cause,⟨by show 0<=b.C.Timer-1;omega,by show b.C.Timer-1<=4095;omega⟩,hb.mem,hb.inn,hb.inw,hb.out,hb.outw⟩}
theorem tD(hb:BOk b){z:Int}(h0:0<=z)(h1:z<64):0<=b.Mem.getD z.toNat default/\b.Mem.getD z.toNat default<=4095:=iK (yN hb.mem) (by have:=hb.len;omega)
theorem aWg(b:DBare)(i:DIns):(M.kdo b i).Mem=b.Mem:=by unfold M.kdo;cases decide (i.Op=0)<;>cases decide (i.Op=8)<;>cases decide (i.Op=9)<;>cases decide (i.Op=10)<;>cases decide (i.Op=11)<;>cases decide (i.Op=12)<;>cases decide (i.Op=13)<;>rfl
theorem BOk.trap(hb:BOk b){src cause bad:Int}(h1:0<=src/\src<=63)(h2:0<=cause/\cause<=4)(h3:0<=bad/\bad<=63):BOk (M.with_ b (M.trap b.C src cause bad)):=⟨hb.regs,hb.words,hb.vec,hb.vec,h1,h3,hb.root,h2,hb.timer,hb.mem,hb.inn,hb.inw,hb.out,hb.outw⟩
theorem BOk.at_(hb:BOk b){pc:Int}(h:0<=pc/\pc<=63):BOk (M.with_ b (M.at_ b.C pc)):=⟨hb.regs,hb.words,h,hb.vec,hb.sav,hb.bad,hb.root,hb.cause,hb.timer,hb.mem,hb.inn,hb.inw,hb.out,hb.outw⟩
theorem BOk.go(hb:BOk b):BOk (M.with_ b (M.go b.C)):=hb.at_ (by omega)
theorem BOk.put(hb:BOk b){w:Int}(h:0<=w/\w<=4095):BOk (M.with_ b (M.put b.C a w)):=⟨by show(b.C.Regs.set _ _).length=4;rw[lS];exact hb.regs,yR hb.words h.1 h.2,hb.pc,hb.vec,hb.sav,hb.bad,hb.root,hb.cause,hb.timer,hb.mem,hb.inn,hb.inw,hb.out,hb.outw⟩
theorem aUc{xs:List Int}{w:Int}(h:M.wordsOk xs=true)(hw:0<=w/\w<=4095):M.wordsOk (xs++[w])=true:=by refine List.all_eq_true.2 λx hx=>?_;rcases List.mem_append.1 hx with h1|h1;{exact List.all_eq_true.1 h x h1};{rw[List.mem_singleton.1 h1];exact M.inR_iff.2 hw}
theorem aRv{xs:List Int}(h:M.wordsOk xs=true):M.wordsOk (xs.drop 1)=true:=List.all_eq_true.2 λx hx=>List.all_eq_true.1 h x (List.mem_of_mem_drop hx)
theorem bGc{xs:List Int}(h:M.wordsOk xs=true):0<=M.first xs/\M.first xs<=4095:=by
 (cases xs with|nil=>exact⟨by decide,by decide⟩|cons x xs=>exact M.inR_iff.1 (List.all_eq_true.1 h x (List.mem_cons_self ..)))
theorem bOd(hb:BOk b){k:Int}:0<=M.cin b k/\M.cin b k<=4095:=by have h1:=hb.cause;have h2:=hb.bad;have h3:=hb.sav;have h4:=bGc hb.inw;unfold M.cin;cases decide (k=1)<;>cases decide (k=2)<;>cases decide (k=3)<;>simp only[cTq,cFq]<;>omega
theorem bNs(hb:BOk b)(a0:0<=a)(a1:a<=3):BOk (M.kdo b ⟨op,a,n⟩):=by
 have g:=hb.reg a0 (by omega);unfold M.kdo;simp only;cases decide (op=0)with
 |true=>exact⟨hb.regs,hb.words,hb.pc,hb.vec,hb.sav,hb.bad,hb.root,hb.cause,hb.timer,hb.mem,hb.inn,hb.inw,hb.out,hb.outw⟩
 |false=>
 cases decide (op=8)with
 |true=>have hr:-1<=M.root (M.reg b.C a)/\M.root (M.reg b.C a)<=7:=(by unfold M.root;by_cases e:M.reg b.C a%16<8;{rw[dT e,cTq];omega};{rw[dF e,cFq];omega});exact BOk.go (b:=M.with_ b ⟨b.C.Regs,b.C.Pc,M.root (M.reg b.C a),b.C.Vector,b.C.Saved,b.C.SavedUser,b.C.Cause,b.C.Bad,b.C.Timer,b.C.Waits,b.C.User,b.C.On,b.C.Stopped⟩) ⟨hb.regs,hb.words,hb.pc,hb.vec,hb.sav,hb.bad,hr,hb.cause,hb.timer,hb.mem,hb.inn,hb.inw,hb.out,hb.outw⟩
 |false=>
 cases decide (op=9)with
 |true=>exact BOk.go (b:=M.with_ b ⟨b.C.Regs,b.C.Pc,b.C.Root,M.reg b.C a%64,b.C.Saved,b.C.SavedUser,b.C.Cause,b.C.Bad,b.C.Timer,b.C.Waits,b.C.User,b.C.On,b.C.Stopped⟩) ⟨hb.regs,hb.words,hb.pc,by show 0<=M.reg b.C a%64/\M.reg b.C a%64<=63;omega,hb.sav,hb.bad,hb.root,hb.cause,hb.timer,hb.mem,hb.inn,hb.inw,hb.out,hb.outw⟩
 |false=>
 cases decide (op=10)with
 |true=>exact BOk.go (b:=M.with_ b ⟨b.C.Regs,b.C.Pc,b.C.Root,b.C.Vector,b.C.Saved,b.C.SavedUser,b.C.Cause,b.C.Bad,M.reg b.C a,b.C.Waits,b.C.User,b.C.On,b.C.Stopped⟩) ⟨hb.regs,hb.words,hb.pc,hb.vec,hb.sav,hb.bad,hb.root,hb.cause,g,hb.mem,hb.inn,hb.inw,hb.out,hb.outw⟩
 |false=>
 cases decide (op=11)with
 |true=>exact⟨hb.regs,hb.words,hb.sav,hb.vec,hb.sav,hb.bad,hb.root,hb.cause,hb.timer,hb.mem,hb.inn,hb.inw,hb.out,hb.outw⟩
 |false=>
 cases decide (op=12)with
 |true=>exact BOk.go (b:=M.with_ b ⟨b.C.Regs,b.C.Pc,b.C.Root,b.C.Vector,b.C.Saved,b.C.SavedUser,b.C.Cause,b.C.Bad,b.C.Timer,b.C.Waits,b.C.User,decide (n%2=1),b.C.Stopped⟩) ⟨hb.regs,hb.words,hb.pc,hb.vec,hb.sav,hb.bad,hb.root,hb.cause,hb.timer,hb.mem,hb.inn,hb.inw,hb.out,hb.outw⟩
 |false=>
 have h:=hb.go;(cases decide (op=13)with|true=>simp only[cTq,cFq];by_cases e:b.Out.length<30;{rw[dT e];exact⟨h.regs,h.words,h.pc,h.vec,h.sav,h.bad,h.root,h.cause,h.timer,h.mem,h.inn,h.inw,by show(b.Out++[_]).length<=30;simp only[List.length_append,List.length_cons,List.length_nil];omega,aUc hb.outw g⟩};{rw[dF e];exact h}|false=>simp only[cFq];have h:=(hb.put (a:=a) (bOd hb (k:=n%4))).go;refine⟨h.regs,h.words,h.pc,h.vec,h.sav,h.bad,h.root,h.cause,h.timer,h.mem,?_,?_,h.out,h.outw⟩;{show(M.rest b.In (n%4)).length<=30;have:=hb.inn;unfold M.rest;cases decide (n%4=0)<;>simp only[cTq,cFq,List.length_drop]<;>omega};{show M.wordsOk (M.rest b.In (n%4))=true;unfold M.rest;cases decide (n%4=0);{exact hb.inw};{exact aRv hb.inw}})
theorem bFh(hb:BOk b)(a0:0<=a)(a1:a<=3)(n0:0<=n)(n1:n<=63):BOk (M.with_ b (M.plain b.C ⟨op,a,n⟩)):=by
 have hp:=hb.pc;unfold M.plain;simp only;cases decide (op=1)with
 |true=>exact(hb.put (a:=a) (w:=n) (by omega)).go
 |false=>
 cases decide (op=2)with
 |true=>exact(hb.put (a:=a) (w:=(M.reg b.C a+M.reg b.C (n%4))%4096) (by omega)).go
 |false=>
 cases decide (op=15)with
 |true=>exact(hb.put (a:=a) (w:=(M.reg b.C a-M.reg b.C (n%4)+4096)%4096) (by omega)).go
 |false=>
 cases decide (op=5)with
 |true=>exact hb.at_ ⟨n0,n1⟩
 |false=>
 (cases decide (op=6)with|true=>(cases decide (M.reg b.C a=0)with|true=>exact hb.go|false=>exact hb.at_ ⟨n0,n1⟩)|false=>exact hb.trap (src:=(b.C.Pc+1)%64) (cause:=1) (bad:=0) (by omega) (by omega) (by omega))
theorem bEm(hb:BOk b)(a0:0<=a)(a1:a<=3)(n0:0<=n)(ho:op=3\/op=4):BOk (M.mdo b ⟨op,a,n⟩):=by have g:=hb.reg a0 (by omega);unfold M.mdo;simp only;by_cases h:M.walk b.Mem b.C.Root (M.reg b.C (n%4)%64) b.C.User (decide (op=4))=-1;{rw[dT h];exact hb.trap (src:=b.C.Pc) (cause:=2) (bad:=M.reg b.C (n%4)%64) hb.pc (by omega) (by omega)};{have hw:=qY _ _ _ _ _ h;rw[dF h];rcases ho with rfl|rfl;{simp only[Int.reduceEq,decide_false]at hw;exact(hb.put (a:=a) (tD hb hw.1 hw.2)).go};{have h2:=hb.go;refine⟨h2.regs,h2.words,h2.pc,h2.vec,h2.sav,h2.bad,h2.root,h2.cause,h2.timer,?_,h2.inn,h2.inw,h2.out,h2.outw⟩;show M.memOk (b.Mem.set _ _)=true;simp only[M.memOk,lS,hb.len,decide_true,Bool.true_and];exact yR (yN hb.mem) g.1 g.2}}
theorem bMo(hb:BOk b){i:DIns}(hi:M.insOk i=true):BOk (M.did b i):=by obtain⟨op,a,n⟩:=i;simp only[M.insOk,bA,M.inR_iff]at hi;obtain⟨⟨⟨o0,o1⟩,a0,a1⟩,n0,n1⟩:=hi;unfold M.did;simp only;(cases M.kern op with|true=>(cases b.C.User with|true=>exact hb.trap (src:=b.C.Pc) (cause:=3) (bad:=0) hb.pc (by omega) (by omega)|false=>exact bNs hb a0 a1)|false=>by_cases h3:op=3;{rw[dT h3];exact bEm hb a0 a1 n0 (.inl h3)};{by_cases h4:op=4;{rw[dT h4,Bool.or_true];exact bEm hb a0 a1 n0 (.inr h4)};{rw[dF h3,dF h4];exact bFh hb a0 a1 n0 n1}})
theorem aEv(hb:BOk b):BOk (M.step b):=by
 have ht:=hb.tick;unfold M.step;cases b.C.Stopped with
 |true=>exact hb
 |false=>
 cases(M.tick b.C).Waits&&(M.tick b.C).On with
 |true=>have hq:BOk (M.with_ b (M.quiet (M.tick b.C))):=⟨ht.regs,ht.words,ht.pc,ht.vec,ht.sav,ht.bad,ht.root,ht.cause,ht.timer,ht.mem,ht.inn,ht.inw,ht.out,ht.outw⟩;exact hq.trap (src:=(M.tick b.C).Pc) (cause:=4) (bad:=0) ht.pc (by omega) (by omega)
 |false=>
 simp only[cFq];by_cases h:M.walk b.Mem (M.tick b.C).Root (M.tick b.C).Pc (M.tick b.C).User false=-1;{rw[dT h];exact ht.trap (src:=(M.tick b.C).Pc) (cause:=2) (bad:=(M.tick b.C).Pc) ht.pc (by omega) ht.pc};{have hw:=qY _ _ _ _ _ h;have hm:=tD hb hw.1 hw.2;rw[dF h];exact bMo ht (aCl hm.1 hm.2)}
theorem BOk.small(hb:BOk b):SmallB b:=⟨⟨by have:=hb.regs;omega⟩,by have:=hb.len;omega,by have:=hb.inn;omega,by have:=hb.out;omega⟩
end
end Go.Proofs.YtobbmlnagjhofaaGreat
