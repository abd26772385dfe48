/- The plain functions: what they answer. -/
import Derived.Test.YtobbmlnagjhofaaZY
import Derived.Test.YtobbmlnagjhofaaWFGV1
import Derived.Laws.Bits64
namespace Go.Proofs.Ytobbmlnagjhofaa
set_option linter.all false
theorem oB.{u,v} {α:Type u} {β:Type v} (a:α) (f:α->Option β):(some a).bind f=f a:=rfl
theorem dF{p:Prop}[Decidable p](h:¬p):decide p=false:=decide_eq_false h
theorem dT{p:Prop}[Decidable p](h:p):decide p=true:=decide_eq_true h
theorem cFq.{u} {α:Sort u} (a b:α):cond false a b=b:=rfl
theorem cTq.{u} {α:Sort u} (a b:α):cond true a b=a:=rfl
theorem bT:(!true)=false:=rfl
theorem bF:(!false)=true:=rfl
theorem bA(a b:Bool):((a&&b)=true)=(a=true/\b=true):=Bool.and_eq_true a b
theorem iT(n:Nat):Int.toNat (n:Int)=n:=rfl
theorem iM{a b:Int}(h:0<=a):a.tmod b=a%b:=Int.tmod_eq_emod_of_nonneg h
theorem lS.{u} {α:Type u} {xs:List α} {i:Nat} {a:α}:(xs.set i a).length=xs.length:=List.length_set
theorem bB{α:Type}[Inhabited α]{xs:List α}{i:Nat}(h:i<xs.length):xs.getD i default=xs[i]:=by simp[List.getD,h]
namespace M
def inR(lo hi n:Int):Bool:=decide (lo<=n)&&decide (n<=hi)
def wordOk(n:Int):Bool:=inR 0 4095 n
def wordsOk(xs:List Int):Bool:=xs.all wordOk
def memOk(xs:List Int):Bool:=decide (xs.length=64)&&wordsOk xs
theorem inR_iff{lo hi n:Int}:inR lo hi n=true↔lo<=n/\n<=hi:=by simp[inR]
end M
theorem bIa{b:Bool}{x:Option Bool}{y:Bool}(h:x=some y):(cond b x (some false))=some (b&&y):=by cases b<;>simp[h]
theorem qH{b y:Bool}:(cond b (some y) (some false))=some (b&&y):=by cases b<;>rfl
theorem aRd(n:Int):hU n=some (M.wordOk n):=by unfold hU;rw[qH];rfl
theorem tZ(n lo hi:Int):bX n lo hi=some (M.inR lo hi n):=by unfold bX;rw[qH];rfl
theorem wQ(n:Int):hZ n=some (M.wordOk n):=by unfold hZ;rw[tZ];rfl
theorem bFb{a b:Int}:decide (a<b+1)=decide (a<=b):=by rw[decide_eq_decide];omega
theorem rY {T:Type} [Inhabited T] {xs:List T} {Pf:T->Option Bool} {p:T->Bool} (hP:∀x,Pf x=some (p x)) (hl:xs.length<=9223372036854775806) (step:Int->Option (LO Int (JO Unit Bool)))
 (hs:∀k,step k=cond (decide (k<((List.length xs:Nat):Int))) (grd ((0:Int)<=k/\k<((List.length xs:Nat):Int)) (Option.bind (Pf (List.getD xs (Int.toNat k) default)) λv=>cond (!v) (some (.ret (.out false))) (some (.next (w64 (k+(1:Int))))))) (some (.ret (.go ())))):
 iter step 0=some (.ret (bif xs.all p then .go ()else .out false)):=by
 have key:∀k:Int,(0<=k/\k<=(xs.length:Int))->iter step k=some (.ret (bif (xs.drop k.toNat).all p then .go ()else .out false)):=by
  refine aRo _ (λk=>xs.length-k.toNat) _ ?_
  rintro k ⟨h0,h1⟩
  by_cases hk:k<xs.length
  · have e1:xs.drop k.toNat=xs.getD k.toNat default::xs.drop (k+1).toNat:=by
     rw[bB (by omega),show(k+1).toNat=k.toNat+1 by omega];exact List.drop_eq_getElem_cons (by omega)
    have hst:step k=cond (!p (xs.getD k.toNat default)) (some (.ret (.out false))) (some (.next (k+1))):=(by rw[hs,dT hk,cTq,aE ⟨h0,hk⟩,hP,aD (by omega) (by omega)];rfl);(cases hp:p (xs.getD k.toNat default)with|true=>refine .inl ⟨k+1,by rw[hst,hp];rfl,⟨by omega,by omega⟩,by omega,?_⟩;rw[e1,List.all_cons,hp,Bool.true_and]|false=>refine .inr ⟨λs'=>by rw[hst,hp];simp,?_⟩;rw[hst,hp,e1,List.all_cons,hp];rfl)
  {have hk2:k=xs.length:=(by omega);have hf:decide (k<((List.length xs:Nat):Int))=false:=(by simp;omega);refine .inr ⟨λs'=>by rw[hs,hf];simp,?_⟩;rw[hs,hf,hk2];simp}
 simpa using key 0 ⟨by omega,by omega⟩
theorem xL{xs:List Int}(h:xs.length<=9223372036854775806):fW xs=some (M.wordsOk xs):=by unfold fW;rw[rY aRd h (uU xs) (λk=>rfl)];simp only[M.wordsOk];cases xs.all M.wordOk<;>rfl
theorem bGm{xs:List Int}(h:xs.length<=9223372036854775806):rD xs=some (M.memOk xs):=by unfold rD;rw[xL h];show cond _ (some _) (some false)=_;rw[qH];simp only[M.memOk];congr 2;rw[decide_eq_decide];omega
theorem bFs{xs:List Int}(h:xs.length<=9223372036854775806):qX xs=some (M.memOk xs):=by unfold qX;rw[rY wQ h (xU xs) (λk=>rfl)];simp only[M.memOk,M.wordsOk];cases xs.all M.wordOk;{simp[LO.val,JO.run]};{simp only[LO.val,JO.run,oB,xH,cTq,Bool.and_true];congr 1;rw[decide_eq_decide];omega}
theorem aZs{xs:List Int}(h:M.memOk xs=true):xs.length=64:=by simp only[M.memOk,bA,decide_eq_true_eq]at h;exact h.1
section
variable {T σ S R : Type} [Inhabited T]
theorem pU {xs:List T} {step:S->Option (LO S R)} (enc:σ->Int->S) (p:T->Bool) (g:σ->T->σ) (fin:σ->R) (r:R) (Inv:Nat->σ->Prop)
 (hs:∀(i:Nat) x s,(i:Int)<(xs.length:Int)->x∈xs->xs.getD i default=x->Inv i s->step (enc s i)=some (bif p x then .next (enc (g s x) ((i:Int)+1))else .ret r)/\(p x=true->Inv (i+1) (g s x)))
 (he:∀s,Inv xs.length s->step (enc s xs.length)=some (.ret (fin s))) (s:σ) (hi:Inv 0 s):
 iter step (enc s 0)=some (.ret (bif xs.all p then fin (xs.foldl g s)else r))/\(xs.all p=true->Inv xs.length (xs.foldl g s)):=by
 have key:∀(suf pre:List T) (s:σ),xs=pre++suf->Inv pre.length s->iter step (enc s pre.length)=some (.ret (bif suf.all p then fin (suf.foldl g s)else r))/\(suf.all p=true->Inv xs.length (suf.foldl g s)):=by
  intro suf;induction suf with
  |nil=>intro pre s hx hi;rw[List.append_nil]at hx;subst hx;rw[cU,he s hi];exact⟨rfl,λ_=>hi⟩
  |cons x suf ih=>intro pre s hx hi;obtain⟨h1,h2⟩:=hs pre.length x s (by rw[hx];simp;omega) (by rw[hx];simp) (by rw[hx];simp[List.getD]) hi;rw[cU,h1];(cases hp:p x with|false=>simp[List.all_cons,hp]|true=>obtain⟨g1,g2⟩:=ih (pre++[x]) (g s x) (by rw[hx];simp) (by simpa using h2 hp);simp only[List.length_append,List.length_cons,List.length_nil,Nat.zero_add,Int.natCast_add]at g1;simp only[cTq,List.all_cons,hp,Bool.true_and,List.foldl_cons];exact⟨g1,g2⟩)
 simpa using key xs [] s rfl hi
theorem qJ {xs:List T} {step:S->Option (LO S R)} (enc:σ->Int->S) (g:σ->T->σ) (fin:σ->R) (Inv:Nat->σ->Prop)
 (hs:∀(i:Nat) x s,(i:Int)<(xs.length:Int)->x∈xs->xs.getD i default=x->Inv i s->step (enc s i)=some (.next (enc (g s x) ((i:Int)+1)))/\Inv (i+1) (g s x))
 (he:∀s,Inv xs.length s->step (enc s xs.length)=some (.ret (fin s))) (s:σ) (hi:Inv 0 s):
 iter step (enc s 0)=some (.ret (fin (xs.foldl g s)))/\Inv xs.length (xs.foldl g s):=by
 have h:=pU (p:=λ_=>true) enc g fin (fin s) Inv (λi x s h1 h2 h3 h4=>⟨(hs i x s h1 h2 h3 h4).1,λ_=>(hs i x s h1 h2 h3 h4).2⟩) he s hi;have e:xs.all (λ_=>true)=true:=(by simp);rw[e]at h;exact⟨h.1,h.2 rfl⟩
theorem vG {n:Nat} {step:S->Option (LO S R)} (enc:σ->Int->S) (g:σ->Nat->σ) (fin:σ->R) (Inv:Nat->σ->Prop)
 (hs:∀(i:Nat) s,i<n->Inv i s->step (enc s i)=some (.next (enc (g s i) ((i:Int)+1)))/\Inv (i+1) (g s i))
 (he:∀s,Inv n s->step (enc s n)=some (.ret (fin s))) (s:σ) (hi:Inv 0 s):
 iter step (enc s 0)=some (.ret (fin ((List.range n).foldl g s)))/\Inv n ((List.range n).foldl g s):=by
 have h:=qJ (xs:=List.range n) enc g fin Inv (λi x s h1 h2 h3 h4=>by have hi:i<n:=(by simpa using h1);have:x=i:=(by rw[<-h3];simp[List.getD,hi]);subst this;exact hs x s hi h4) (by simpa using he) s hi;simpa using h
theorem aMq {n:Nat} {step:S->Option (LO S R)} (enc:Int->S) (p:Nat->Bool) (a r:R)
 (hs:∀(i:Nat),i<n->step (enc i)=some (bif p i then .next (enc ((i:Int)+1))else .ret r))
 (he:step (enc n)=some (.ret a)):
 iter step (enc 0)=some (.ret (bif (List.range n).all p then a else r)):=by
 have h:=pU (xs:=List.range n) (σ:=Unit) (λ_ k=>enc k) p (λ_ _=>()) (λ_=>a) r (λ_ _=>True) (λi x s h1 h2 h3 h4=>by have hi:i<n:=(by simpa using h1);have:x=i:=(by rw[<-h3];simp[List.getD,hi]);subst this;exact⟨hs x hi,λ_=>trivial⟩) (λs _=>by simpa using he) () trivial;exact h.1
theorem cN {n:Nat} {step:S->Option (LO S R)} (st:Nat->S) (ok:Nat->Bool) (a r:R)
 (hs:∀(i:Nat),i<n->(∀j,j<i->ok j=true)->step (st i)=some (bif ok i then .next (st (i+1))else .ret r))
 (he:(∀j,j<n->ok j=true)->step (st n)=some (.ret a)):
 iter step (st 0)=some (.ret (bif (List.range n).all ok then a else r)):=by
 have key:∀m i,i+m=n->(∀j,j<i->ok j=true)->iter step (st i)=some (.ret (bif (List.range n).all ok then a else r)):=by
  intro m;induction m with
  |zero=>intro i hi ho;have:i=n:=(by omega);subst this;have e:(List.range i).all ok=true:=(by simp only[List.all_eq_true,List.mem_range];exact ho);rw[cU,he ho,e];rfl
  |succ m ih=>intro i hi ho;rw[cU,hs i (by omega) ho];(cases e:ok i with|true=>refine ih (i+1) (by omega) ?_;intro j hj;by_cases h:j=i;{rw[h,e]};{exact ho j (by omega)}|false=>have e2:(List.range n).all ok=false:=(by rw[List.all_eq_false];exact⟨i,by rw[List.mem_range];omega,by rw[e];simp⟩);rw[e2];rfl)
 exact key n 0 (by omega) λj hj=>by omega
end
theorem oA{α β σ:Type}{f:α->List β}{g:σ->β->σ}:∀{xs:List α} {s:σ},xs.foldl (λs x=>(f x).foldl g s) s=(xs.flatMap f).foldl g s
 |[],_=>rfl
 |x::xs,s=>by simp only[List.foldl_cons,List.flatMap_cons,List.foldl_append];exact oA
theorem aSq(n:Int):cH n=some (M.inR 0 63 n):=by unfold cH;rw[qH,show(64:Int)=63+1 from rfl,bFb];rfl
theorem aQe(n:Int):lZ n=some (M.inR 0 7 n):=by unfold lZ;rw[qH,show(8:Int)=7+1 from rfl,bFb];rfl
theorem bCd(n:Int):lT n=some (M.inR (-1) 7 n):=by unfold lT;rw[aQe];by_cases h:n=-1;{subst h;rfl};{rw[dF h];show some (M.inR 0 7 n)=_;congr 1;simp only[M.inR];congr 1;rw[decide_eq_decide];omega}
noncomputable instance:DecidableEq DCore:=λa b=>Classical.propDecidable (a=b)
noncomputable instance:DecidableEq DBare:=λa b=>Classical.propDecidable (a=b)
namespace M
def coreOk(c:DCore):Bool:=decide (c.Regs.length=4)&&wordsOk c.Regs&&(inR 0 63 c.Pc&&inR 0 63 c.Vector&&inR 0 63 c.Saved&&inR 0 63 c.Bad)&&inR (-1) 7 c.Root&&inR 0 4 c.Cause&&wordOk c.Timer
def rowOk(xs:List Int):Bool:=decide (xs.length<=30)&&wordsOk xs
def bareOk(b:DBare):Bool:=coreOk b.C&&memOk b.Mem&&rowOk b.In&&rowOk b.Out
end M
theorem aFe{xs:List Int}(h:xs.length<=9223372036854775806):jC xs=some (M.rowOk xs):=by unfold jC;rw[xL h];show cond _ (some _) (some false)=_;rw[qH];simp only[M.rowOk];congr 2;rw[decide_eq_decide];omega
theorem aEu{xs:List Int}(h:xs.length<=9223372036854775806):dC xs 30=some (M.rowOk xs):=by unfold dC;rw[rY wQ h (oP xs) (λk=>rfl)];simp only[M.rowOk,M.wordsOk];cases xs.all M.wordOk;{simp[LO.val,JO.run]};{simp only[LO.val,JO.run,oB,pC,cTq,Bool.and_true];congr 1;rw[decide_eq_decide];omega}
theorem aOb{c:DCore}(h:c.Regs.length<=9223372036854775806):lX c=some (M.coreOk c):=by unfold lX;simp only[xL h,aSq,bCd,aRd,oB];have e4:decide (((c.Regs.length:Nat):Int)=4)=decide (c.Regs.length=4):=(by rw[decide_eq_decide];omega);rw[e4];simp only[M.coreOk,M.inR];generalize decide (c.Regs.length=4)=b0;generalize M.wordsOk c.Regs=b1;generalize(decide (0<=c.Pc)&&decide (c.Pc<=63))=b2;generalize(decide (0<=c.Vector)&&decide (c.Vector<=63))=b3;generalize(decide (0<=c.Saved)&&decide (c.Saved<=63))=b4;generalize(decide (0<=c.Bad)&&decide (c.Bad<=63))=b5;generalize(decide (-1<=c.Root)&&decide (c.Root<=7))=b6;generalize decide (0<=c.Cause)=b7;generalize decide (c.Cause<=4)=b8;generalize M.wordOk c.Timer=b9;cases b0<;>cases b2<;>cases b3<;>cases b4<;>cases b7<;>cases b1<;>cases b5<;>cases b6<;>cases b8<;>rfl
theorem aPc{c:DCore}(h:c.Regs.length<=9223372036854775806):jP c=some (M.coreOk c):=by unfold jP;rw[rY wQ h (wO c) (λk=>rfl)];simp only[M.coreOk,M.wordsOk];cases c.Regs.all M.wordOk;{simp[LO.val,JO.run]};{simp only[LO.val,JO.run,oB,wZ,cTq,Bool.and_true,tZ,wQ];have e4:decide (((c.Regs.length:Nat):Int)=4)=decide (c.Regs.length=4):=(by rw[decide_eq_decide];omega);rw[e4];generalize decide (c.Regs.length=4)=b0;generalize M.inR 0 63 c.Pc=b2;generalize M.inR 0 63 c.Vector=b3;generalize M.inR 0 63 c.Saved=b4;generalize M.inR 0 63 c.Bad=b5;generalize M.inR (-1) 7 c.Root=b6;generalize M.inR 0 4 c.Cause=b7;generalize M.wordOk c.Timer=b9;cases b0<;>cases b2<;>cases b3<;>cases b4<;>cases b7<;>cases b5<;>cases b6<;>rfl}
structure SmallC (c : DCore) : Prop where
 regs:c.Regs.length<=1048576
structure SmallB (b : DBare) : Prop where
 c:SmallC b.C
 mem:b.Mem.length<=1048576
 i:b.In.length<=1048576
 o:b.Out.length<=1048576
theorem bCr{b:DBare}(h:SmallB b):lV b=some (M.bareOk b):=by have:=h.c.regs;have:=h.mem;have:=h.i;have:=h.o;unfold lV;simp only[aOb (show b.C.Regs.length<=9223372036854775806 by omega),bGm (show b.Mem.length<=9223372036854775806 by omega),aFe (show b.In.length<=9223372036854775806 by omega),aFe (show b.Out.length<=9223372036854775806 by omega),oB,M.bareOk];cases M.coreOk b.C<;>cases M.memOk b.Mem<;>cases M.rowOk b.In<;>rfl
theorem aRw{b:DBare}(h:SmallB b):lQ b=some (M.bareOk b):=by have:=h.c.regs;have:=h.mem;have:=h.i;have:=h.o;unfold lQ;simp only[aPc (show b.C.Regs.length<=9223372036854775806 by omega),bFs (show b.Mem.length<=9223372036854775806 by omega),aEu (show b.In.length<=9223372036854775806 by omega),aEu (show b.Out.length<=9223372036854775806 by omega),oB,M.bareOk];cases M.coreOk b.C<;>cases M.memOk b.Mem<;>cases M.rowOk b.In<;>rfl
noncomputable instance:DecidableEq DSlot:=λa b=>Classical.propDecidable (a=b)
noncomputable instance:DecidableEq DGuest:=λa b=>Classical.propDecidable (a=b)
noncomputable instance:DecidableEq DHost:=λa b=>Classical.propDecidable (a=b)
structure SmallG (g : DGuest) : Prop where
 c:SmallC g.C
 pages:g.Pages.length<=1048576
 i:g.In.length<=1048576
 o:g.Out.length<=1048576
structure SmallH (h : DHost) : Prop where
 words:h.Words.length<=1048576
 guests:h.Guests.length<=1048576
 all:∀g∈h.Guests,SmallG g
theorem dN{T:Type}[Inhabited T]{xs:List T}{k:Nat}(h:k<xs.length):xs.getD k default∈xs:=by rw[bB h];exact List.getElem_mem _
namespace M
def noCore:DCore:=⟨[],0,0,0,0,false,0,0,0,false,false,false,false⟩
def noGuest:DGuest:=⟨false,noCore,[],[],[]⟩
def slotOk(s:DSlot):Bool:=bif decide (s.Frame=-1)then !s.Write&&!s.Dirty else decide (0<=s.Frame)&&decide (s.Frame<20)
noncomputable def guestOk (g:DGuest):Bool:=bif g.Live then coreOk g.C&&(decide (g.Pages.length=8)&&g.Pages.all slotOk)&&rowOk g.In&&rowOk g.Out else decide (g=noGuest)
def slots(gs:List DGuest):List DSlot:=gs.flatMap (·.Pages)
def many(ss:List DSlot)(f:Int):Nat:=ss.countP λs=>decide (s.Frame=f)
def alone(ss:List DSlot):Bool:=ss.all λs=>!s.Write||decide (many ss s.Frame<=1)
def bump(xs:List Int)(s:DSlot):List Int:=bif decide (s.Frame=-1)then xs else xs.set s.Frame.toNat (xs.getD s.Frame.toNat default+1)
def takers(ss:List DSlot):List Int:=ss.foldl bump (List.replicate 20 0)
noncomputable def hostOk (h:DHost):Bool:=decide (h.Words.length=160)&&wordsOk h.Words&&(decide (h.Guests.length=3)&&h.Guests.all guestOk)&&alone (slots h.Guests)
end M
theorem bCp(s:DSlot):pO s=some (M.slotOk s):=by unfold pO M.slotOk;by_cases h:s.Frame=-1;{rw[dT h];cases s.Write<;>rfl};{rw[dF h];simp only[cFq];exact qH}
theorem bAl{xs:List DSlot}(h:xs.length<=9223372036854775806):oH xs=some (decide (xs.length=8)&&xs.all M.slotOk):=by unfold oH;by_cases hl:xs.length=8;{have:decide (((xs.length:Nat):Int)=8)=true:=(by simp;omega);rw[this,bT,cFq,rY bCp h (uW xs) (λk=>rfl),dT hl];cases xs.all M.slotOk<;>rfl};{have:decide (((xs.length:Nat):Int)=8)=false:=(by simp;omega);rw[this,dF hl];rfl}
theorem dbe{a b:Bool}(h:a=true↔b=true):a=b:=Bool.eq_iff_iff.2 h
theorem aWb(c:DCore):mK c=some (decide (c=M.noCore)):=by obtain⟨a1,a2,a3,a4,a5,a6,a7,a8,a9,a10,a11,a12,a13⟩:=c;unfold mK;simp only[];by_cases h2:a2=0;{by_cases h3:a3=0;{by_cases h4:a4=0;{by_cases h5:a5=0;{by_cases h1:a1=[];{by_cases h8:a8=0;{by_cases h7:a7=0;{by_cases h9:a9=0;{subst h1 h2 h3 h4 h5 h7 h8 h9;cases a6<;>cases a10<;>cases a11<;>cases a12<;>cases a13<;>simp[M.noCore]};{rw[dF (p:=DCore.mk _ _ _ _ _ _ _ _ _ _ _ _ _=M.noCore) (by simp[M.noCore,h9])];simp only[dF h9];cases a6<;>cases a10<;>cases a11<;>cases a12<;>simp}};{rw[dF (p:=DCore.mk _ _ _ _ _ _ _ _ _ _ _ _ _=M.noCore) (by simp[M.noCore,h7])];simp only[dF h7];cases a6<;>cases a10<;>cases a11<;>cases a12<;>simp}};{rw[dF (p:=DCore.mk _ _ _ _ _ _ _ _ _ _ _ _ _=M.noCore) (by simp[M.noCore,h8])];simp only[dF h8];cases a6<;>cases a10<;>cases a11<;>cases a12<;>simp}};{rw[dF (p:=DCore.mk _ _ _ _ _ _ _ _ _ _ _ _ _=M.noCore) (by simp[M.noCore,h1])];have:decide (((a1.length:Nat):Int)=0)=false:=(by simp[h1]);simp only[this];cases a6<;>cases a10<;>cases a11<;>cases a12<;>simp}};{rw[dF (p:=DCore.mk _ _ _ _ _ _ _ _ _ _ _ _ _=M.noCore) (by simp[M.noCore,h5])];simp only[dF h5];cases a6<;>cases a10<;>cases a11<;>cases a12<;>simp}};{rw[dF (p:=DCore.mk _ _ _ _ _ _ _ _ _ _ _ _ _=M.noCore) (by simp[M.noCore,h4])];simp only[dF h4];cases a6<;>cases a10<;>cases a11<;>cases a12<;>simp}};{rw[dF (p:=DCore.mk _ _ _ _ _ _ _ _ _ _ _ _ _=M.noCore) (by simp[M.noCore,h3])];simp only[dF h3];cases a6<;>cases a10<;>cases a11<;>cases a12<;>simp}};{rw[dF (p:=DCore.mk _ _ _ _ _ _ _ _ _ _ _ _ _=M.noCore) (by simp[M.noCore,h2])];simp only[dF h2];cases a6<;>cases a10<;>cases a11<;>cases a12<;>simp}
theorem aQt{g:DGuest}(hl:g.Live=false):kM g=some (decide (g=M.noGuest)):=by unfold kM;rw[aWb,oB];obtain⟨l,c,p,i,o⟩:=g;simp only at hl;subst hl;simp only[M.noGuest,DGuest.mk.injEq,true_and];by_cases h1:c=M.noCore<;>by_cases h2:p=[]<;>by_cases h3:i=[]<;>by_cases h4:o=[]<;>simp[h1,h2,h3,h4]
theorem bJm{g:DGuest}(hl:g.Live=false):lU g=some (decide (g=M.noGuest)):=by
 unfold lU;obtain⟨l,⟨a1,a2,a3,a4,a5,a6,a7,a8,a9,a10,a11,a12,a13⟩,p,i,o⟩:=g;simp only at hl;subst hl;simp only[bIa rfl,qH];congr 1;apply dbe;simp only[bA,decide_eq_true_eq,Bool.not_eq_true',M.noGuest,M.noCore,DGuest.mk.injEq,DCore.mk.injEq,true_and,Int.natCast_eq_zero,List.length_eq_zero_iff];constructor
 · rintro⟨h1,h2,h3,h4,h5,h6,h7,h8,h9,h10,h11,h12,h13,h14,h15,h16⟩;exact⟨⟨h1,h2,h3,h4,h5,h6,h7,h8,h9,h10,h11,h12,h13⟩,h14,h15,h16⟩
 · rintro⟨⟨h1,h2,h3,h4,h5,h6,h7,h8,h9,h10,h11,h12,h13⟩,h14,h15,h16⟩;exact⟨h1,h2,h3,h4,h5,h6,h7,h8,h9,h10,h11,h12,h13,h14,h15,h16⟩
theorem bAz{g:DGuest}(h:SmallG g):kU g=some (M.guestOk g):=by have:=h.c.regs;have:=h.pages;have:=h.i;have:=h.o;unfold kU M.guestOk;(cases hl:g.Live with|false=>simp only[bF,cTq,aQt hl,oB,cFq]|true=>simp only[bT,cFq,cTq];rw[aOb (by omega),bAl (by omega),aFe (by omega),aFe (by omega)];simp only[oB];cases M.coreOk g.C<;>cases(decide (g.Pages.length=8)&&g.Pages.all M.slotOk)<;>cases M.rowOk g.In<;>rfl)
theorem aYc{gs:List DGuest}(hl:gs.length<=1048576)(h:∀g∈gs,SmallG g):mN gs=some (decide (gs.length=3)&&gs.all M.guestOk):=by
 unfold mN;by_cases hl:gs.length=3
 · have:decide (((gs.length:Nat):Int)=3)=true:=by simp;omega
   rw[this,bT,cFq,dT hl,Bool.true_and]
   have key:=(pU (xs:=gs) (σ:=Unit) (step:=kD gs) (λ_ k=>k) M.guestOk (λ_ _=>()) (λ_=>JO.go ()) (.out false) (λ_ _=>True) (λi x s h1 h2 h3 h4=>by
    refine⟨?_,λ_=>trivial⟩;simp only[kD,dT h1,cTq];rw[aE ⟨by omega,h1⟩,iT,h3];show Option.bind (kU x) _=_;rw[bAz (h x h2),oB,aD (by omega) (by omega)];cases M.guestOk x<;>rfl) (λs _=>by
    simp only[kD];rw[dF (by omega),cFq]) () trivial).1
   rw[key];cases gs.all M.guestOk<;>rfl
 {have:decide (((gs.length:Nat):Int)=3)=false:=(by simp;omega);rw[this,dF hl];rfl}
theorem bFq{xs:List Int}{i j:Nat}{v:Int}(hi:i<xs.length):(xs.set i v).getD j default=if i=j then v else xs.getD j default:=by by_cases h:i=j;{subst h;simp[List.getD,hi]};{simp[List.getD,List.getElem?_set,h]}
theorem aQk{xs:List Int}{s:DSlot}:(M.bump xs s).length=xs.length:=by unfold M.bump;cases decide (s.Frame=-1)<;>simp
theorem gC{s:DSlot}(h:M.slotOk s=true):-1<=s.Frame/\s.Frame<20:=by unfold M.slotOk at h;by_cases e:s.Frame=-1;{omega};{rw[dF e,cFq,bA,decide_eq_true_eq,decide_eq_true_eq]at h;omega}
theorem aOd{xs:List Int}{s:DSlot}(hl:xs.length=20)(h:M.slotOk s=true){f:Nat}(hf:f<20):(M.bump xs s).getD f default=xs.getD f default+(if s.Frame=(f:Int)then 1 else 0):=by have hr:=gC h;unfold M.bump;by_cases e:s.Frame=-1;{rw[dT e,cTq,if_neg (by omega)];omega};{rw[dF e,cFq,bFq (by omega)];by_cases e2:s.Frame=(f:Int);{rw[if_pos (by omega),if_pos e2];congr 2;omega};{rw[if_neg (by omega),if_neg e2];omega}}
theorem gU{s:DSlot}{ss:List DSlot}{f:Int}:M.many (s::ss) f=M.many ss f+(if s.Frame=f then 1 else 0):=by simp only[M.many,List.countP_cons,decide_eq_true_eq]
theorem aCj{f:Nat}(hf:f<20):∀{ss:List DSlot} {xs:List Int},xs.length=20->ss.all M.slotOk=true->(ss.foldl M.bump xs).length=20/\(ss.foldl M.bump xs).getD f default=xs.getD f default+(M.many ss f:Int)
 |[],xs,hl,_=>⟨hl,by simp[M.many]⟩
 |s::ss,xs,hl,h=>by rw[List.all_cons,bA]at h;obtain⟨h1,h2⟩:=aCj hf (ss:=ss) (xs:=M.bump xs s) (by rw[aQk,hl]) h.2;refine⟨h1,?_⟩;rw[List.foldl_cons,h2,aOd hl h.1 hf,gU];split<;>simp<;>omega
theorem vC{ss:List DSlot}(h:ss.all M.slotOk=true):(M.takers ss).length=20:=(aCj (f:=0) (by omega) (xs:=List.replicate 20 0) (by simp) h).1
theorem zS{ss:List DSlot}(h:ss.all M.slotOk=true){f:Nat}(hf:f<20):(M.takers ss).getD f default=(M.many ss f:Int):=by unfold M.takers;rw[(aCj (f:=f) hf (xs:=List.replicate 20 0) (by simp) h).2];have:(List.replicate 20 (0:Int)).getD f default=0:=(by rw[bB (by rw[List.length_replicate];omega),List.getElem_replicate]);omega
theorem fY{g:DGuest}(h:M.guestOk g=true):g.Pages.all M.slotOk=true/\g.Pages.length<=8:=by unfold M.guestOk at h;(cases hl:g.Live with|true=>rw[hl,cTq]at h;simp only[bA,decide_eq_true_eq]at h;exact⟨h.1.1.2.2,by omega⟩|false=>rw[hl,cFq,decide_eq_true_eq]at h;rw[h];exact⟨rfl,by simp[M.noGuest]⟩)
theorem tM{gs:List DGuest}(h:gs.all M.guestOk=true):(M.slots gs).all M.slotOk=true:=by simp only[M.slots,List.all_flatMap,List.all_eq_true]at h ⊢;exact λg hg=>List.all_eq_true.1 (fY (h g hg)).1
structure Tl (B : Nat) (xs : List Int) : Prop where
 len:xs.length=20
 low:∀i,i<20->0<=xs.getD i default
 top:∀i,i<20->xs.getD i default<=(B:Int)
theorem Tl.mono{B C:Nat}{xs:List Int}(h:Tl B xs)(hB:B<=C):Tl C xs:=⟨h.len,h.low,λi hi=>by have:=h.top i hi;omega⟩
theorem Tl.bump{B:Nat}{xs:List Int}{s:DSlot}(h:Tl B xs)(hs:M.slotOk s=true):Tl (B+1) (M.bump xs s):=by refine⟨by rw[aQk,h.len],λi hi=>?_,λi hi=>?_⟩;all_goals rw[aOd h.len hs hi];have:=h.low i hi;have:=h.top i hi;split<;>omega
theorem Tl.zero:Tl 0 (List.replicate 20 0):=by refine⟨by simp,λi hi=>?_,λi hi=>?_⟩;all_goals rw[bB (by rw[List.length_replicate];omega),List.getElem_replicate];omega
theorem bGl{xs:List Int}{s:DSlot}{B:Nat}(hs:M.slotOk s=true)(ht:Tl B xs)(hB:B<=1000000000){Y:Type}:(cond (!decide (s.Frame=(-1:Int))) (grd ((0:Int)<=s.Frame/\s.Frame<((xs.length:Nat):Int)) (grd ((0:Int)<=s.Frame/\s.Frame<((xs.length:Nat):Int)) (some (JO.go (List.set xs (Int.toNat s.Frame) (w64 ((List.getD xs (Int.toNat s.Frame) default)+(1:Int)))))))) (some (JO.go xs)):Option (JO (List Int) Y))=some (.go (M.bump xs s)):=by have hr:=gC hs;have hl:=ht.len;unfold M.bump;by_cases e:s.Frame=-1;{rw[dT e];rfl};{rw[dF e];have h1:=ht.low s.Frame.toNat (by omega);have h2:=ht.top s.Frame.toNat (by omega);rw[bF,cTq,cFq,aE ⟨by omega,by omega⟩,aE ⟨by omega,by omega⟩,aD (by omega) (by omega)]}
theorem aOi{gs:List DGuest}(hl:gs.length<=1048576)(h:gs.all M.guestOk=true):gF gs=some (M.takers (M.slots gs)):=by
 have hin:∀(k:Nat) (g:DGuest) (xs:List Int) (h1:(k:Int)<(gs.length:Int)) (h2:g∈gs) (h3:gs.getD k default=g) (h4:Tl (8*k) xs),
  iter (eR gs (xs,(k:Int))) (xs,0)=some (.ret (.go (g.Pages.foldl M.bump xs)))/\Tl (8*k+g.Pages.length) (g.Pages.foldl M.bump xs):=by
  intro k g xs h1 h2 h3 h4;obtain⟨g1,g2⟩:=fY (List.all_eq_true.1 h g h2)
  exact qJ (xs:=g.Pages) (step:=eR gs (xs,(k:Int))) (λs j=>(s,j)) M.bump (λs=> .go s) (λj s=>Tl (8*k+j) s) (λj x s a1 a2 a3 a4=>by
   refine⟨?_,a4.bump (List.all_eq_true.1 g1 x a2)⟩;simp only[eR,iT,h3,dT a1,cTq];rw[aE ⟨by omega,a1⟩,a3,bGl (List.all_eq_true.1 g1 x a2) a4 (by omega),oB];simp only[JO.run,qM];rw[aD (by omega) (by omega)]) (λs _=>by
   simp only[eR,iT,h3];rw[dF (by omega),cFq]) xs h4
 have key:=(qJ (xs:=gs) (step:=hC gs) (λs j=>(s,j)) (λs g=>g.Pages.foldl M.bump s) (λs=> .go s) (λk s=>Tl (8*k) s) (λk g s a1 a2 a3 a4=>by
  obtain⟨b1,b2⟩:=hin k g s a1 a2 a3 a4;refine⟨?_,b2.mono (by have:=(fY (List.all_eq_true.1 h g a2)).2;omega)⟩;simp only[hC,dT a1,cTq];rw[aE ⟨by omega,a1⟩,b1];simp only[oB,LO.val,JO.run,qK];rw[aD (by omega) (by omega)]) (λs _=>by
  simp only[hC];rw[dF (by omega),cFq]) (List.replicate 20 0) (Tl.zero.mono (by omega))).1
 unfold gF;rw[show Int.toNat (20:Int)=20 from rfl,key];simp only[oB,LO.val,JO.run,qI];rw[oA];rfl
theorem bHh{gs:List DGuest}(hl:gs.length<=1048576)(h:gs.all M.guestOk=true)(hwr:True):fZ gs=some (M.alone (M.slots gs)):=by
 unfold fZ;rw[aOi hl h,oB];have hs:=tM h
 have hin:∀(k:Nat) (g:DGuest) (h1:(k:Int)<(gs.length:Int)) (h2:g∈gs) (h3:gs.getD k default=g),
  iter (dH gs (M.takers (M.slots gs)) (k:Int)) 0=some (.ret (bif g.Pages.all (λs=>!s.Write||decide (M.many (M.slots gs) s.Frame<=1))then .go ()else .out (.ret (.out false)))):=by
  intro k g h1 h2 h3;obtain⟨g1,g2⟩:=fY (List.all_eq_true.1 h g h2)
  exact(pU (xs:=g.Pages) (σ:=Unit) (step:=dH gs (M.takers (M.slots gs)) (k:Int)) (λ_ j=>j) _ (λ_ _=>()) (λ_=>JO.go ()) _ (λ_ _=>True) (λj x s a1 a2 a3 _=>by
   refine⟨?_,λ_=>trivial⟩;have hx:=List.all_eq_true.1 g1 x a2;have hr:=gC hx;simp only[dH,iT,h3,dT a1,cTq,a3];rw[aE ⟨by omega,a1⟩];cases hw:x.Write with
   |false=>simp only[cFq,oB,JO.run,iS,bF,Bool.true_or,cTq];rw[aD (by omega) (by omega)]
   |true=>
    have hf:x.Frame≠-1:=λe=>by unfold M.slotOk at hx;rw[dT e,hw]at hx;simp at hx
    have hlt:=vC hs;simp only[cTq];rw[aE ⟨by omega,by omega⟩,zS hs (by omega),show((x.Frame.toNat:Nat):Int)=x.Frame by omega];by_cases e:M.many (M.slots gs) x.Frame<=1;{rw[dF (by omega),dT e];simp only[cFq,oB,JO.run,iS,bT,Bool.false_or,cTq];rw[aD (by omega) (by omega)]}
    · rw[dT (by omega),dF e];rfl) (λs _=>by
   simp only[dH,iT,h3];rw[dF (by omega),cFq]) () trivial).1
 have key:=(pU (xs:=gs) (σ:=Unit) (step:=eS gs (M.takers (M.slots gs))) (λ_ j=>j) (λg=>g.Pages.all (λs=>!s.Write||decide (M.many (M.slots gs) s.Frame<=1))) (λ_ _=>()) (λ_=>JO.go ()) (.out false) (λ_ _=>True) (λk g s a1 a2 a3 _=>by
  refine⟨?_,λ_=>trivial⟩;simp only[eS,dT a1,cTq];rw[aE ⟨by omega,a1⟩,hin k g a1 a2 a3];cases g.Pages.all (λs=>!s.Write||decide (M.many (M.slots gs) s.Frame<=1))with
  |false=>rfl
  |true=>simp only[cTq,oB,LO.val,JO.run,mO];rw[aD (by omega) (by omega)]) (λs _=>by
  simp only[eS];rw[dF (by omega),cFq]) () trivial).1
 rw[key]
 have e:M.alone (M.slots gs)=gs.all (λg=>g.Pages.all (λs=>!s.Write||decide (M.many (M.slots gs) s.Frame<=1))):=by
  simp only[M.alone]
  conv=>lhs;arg 1;unfold M.slots
  rw[List.all_flatMap]
 rw[e];cases gs.all (λg=>g.Pages.all (λs=>!s.Write||decide (M.many (M.slots gs) s.Frame<=1)))<;>rfl
theorem vZ{h:DHost}(hs:SmallH h):fB h=some (M.hostOk h):=by have:=hs.words;unfold fB M.hostOk;by_cases hl:h.Words.length=160;{rw[show decide (((h.Words.length:Nat):Int)=160)=true by simp;omega,cTq,xL (by omega),dT hl,oB];(cases M.wordsOk h.Words with|false=>rfl|true=>rw[cTq,aYc hs.guests hs.all,oB];(cases hg:(decide (h.Guests.length=3)&&h.Guests.all M.guestOk)with|false=>rfl|true=>rw[bA]at hg;rw[cTq,bHh hs.guests hg.2 trivial];rfl))};{rw[show decide (((h.Words.length:Nat):Int)=160)=false by simp;omega,dF hl];rfl}
theorem bCo{xs:List Int}{n:Int}(h:xs.length<=9223372036854775806):dC xs n=some (decide ((xs.length:Int)<=n)&&M.wordsOk xs):=by unfold dC;rw[rY wQ h (oP xs) (λk=>rfl)];simp only[M.wordsOk];cases xs.all M.wordOk;{simp[LO.val,JO.run]};{simp only[LO.val,JO.run,oB,pC,cTq,Bool.and_true]}
namespace M
def bumpW(ws:List Bool)(s:DSlot):List Bool:=bif decide (s.Frame=-1)then ws else ws.set s.Frame.toNat (ws.getD s.Frame.toNat default||s.Write)
def bump2(p:List Int×List Bool)(s:DSlot):List Int×List Bool:=(bump p.1 s,bumpW p.2 s)
end M
theorem bCs{xs:List Bool}{i j:Nat}{v:Bool}(hi:i<xs.length):(xs.set i v).getD j default=if i=j then v else xs.getD j default:=by by_cases h:i=j;{subst h;simp[List.getD,hi]};{simp[List.getD,List.getElem?_set,h]}
theorem aLz{xs:List Bool}{s:DSlot}:(M.bumpW xs s).length=xs.length:=by unfold M.bumpW;cases decide (s.Frame=-1)<;>simp
theorem aZa{xs:List Bool}{s:DSlot}(hl:xs.length=20)(h:M.slotOk s=true){f:Nat}(hf:f<20):(M.bumpW xs s).getD f default=(xs.getD f default||(decide (s.Frame=(f:Int))&&s.Write)):=by have hr:=gC h;unfold M.bumpW;by_cases e:s.Frame=-1;{rw[dT e,cTq,dF (by omega)];simp};{rw[dF e,cFq,bCs (by omega)];by_cases e2:s.Frame=(f:Int);{rw[if_pos (by omega),dT e2,Bool.true_and];congr 2;omega};{rw[if_neg (by omega),dF e2];simp}}
theorem aMg:∀{ss:List DSlot} {p:List Int×List Bool},(ss.foldl M.bump2 p).1=ss.foldl M.bump p.1
 |[],_=>rfl
 |s::ss,p=>by rw[List.foldl_cons,aMg];rfl
theorem aMp{f:Nat}(hf:f<20):∀{ss:List DSlot} {p:List Int×List Bool},p.2.length=20->ss.all M.slotOk=true->(ss.foldl M.bump2 p).2.length=20/\(ss.foldl M.bump2 p).2.getD f default=(p.2.getD f default||ss.any λs=>decide (s.Frame=(f:Int))&&s.Write)
 |[],p,hl,_=>⟨hl,by simp⟩
 |s::ss,p,hl,h=>by rw[List.all_cons,bA]at h;obtain⟨h1,h2⟩:=aMp hf (ss:=ss) (p:=M.bump2 p s) (by simpa[M.bump2,aLz]using hl) h.2;refine⟨h1,?_⟩;rw[List.foldl_cons,h2,List.any_cons];simp only[M.bump2];rw[aZa hl h.1 hf,Bool.or_assoc]
structure Tw (B : Nat) (p : List Int × List Bool) : Prop where
 tl:Tl B p.1
 len:p.2.length=20
theorem Tw.bump{B:Nat}{p:List Int×List Bool}{s:DSlot}(h:Tw B p)(hs:M.slotOk s=true):Tw (B+1) (M.bump2 p s):=⟨h.tl.bump hs,by simp[M.bump2,aLz,h.len]⟩
theorem aTj{h:DHost}{k:Nat}{g:DGuest}{p:List Int×List Bool}{B:Nat}(hl:g.Pages.length<=8)(h3:h.Guests.getD k default=g)(ht:Tw B p)(hB:B<=1000000):
 iter (iJ h (p.1,p.2,(k:Int))) (p.1,p.2,0)=some (.ret (bif g.Pages.all M.slotOk then .go ((g.Pages.foldl M.bump2 p).1,(g.Pages.foldl M.bump2 p).2)else .out (.ret (.out false))))/\(g.Pages.all M.slotOk=true->Tw (B+g.Pages.length) (g.Pages.foldl M.bump2 p)):=by
 exact pU (xs:=g.Pages) (step:=iJ h (p.1,p.2,(k:Int))) (λs j=>(s.1,s.2,j)) M.slotOk M.bump2 (λs=> .go (s.1,s.2)) (.out (.ret (.out false))) (λj s=>Tw (B+j) s) (λj x s a1 a2 a3 a4=>by
  refine⟨?_,λhx=>a4.bump hx⟩;simp only[iJ,iT,h3,dT a1,cTq,a3];rw[aE ⟨by omega,a1⟩,tZ,oB];have hgo:M.slotOk x=true->oY h (p.1,p.2,(k:Int)) (s.1,s.2,(j:Int)) ()=some (.go ((M.bump2 s x).2,(M.bump2 s x).1)):=λhx=>by have hr:=gC hx;have hl1:=a4.tl.len;have hl2:=a4.len;simp only[oY,iT,h3,a3,M.bump2,M.bump,M.bumpW];by_cases e:x.Frame=-1;{rw[dF (p:=(0:Int)<=x.Frame) (by omega),dT e];rfl};{have q1:=a4.tl.low x.Frame.toNat (by omega);have q2:=a4.tl.top x.Frame.toNat (by omega);rw[dT (p:=(0:Int)<=x.Frame) (by omega),dF e];simp only[cTq,cFq];rw[aE ⟨by omega,by omega⟩,aE ⟨by omega,by omega⟩,aE ⟨by omega,by omega⟩,aD (by omega) (by omega)];(cases hw:s.2.getD x.Frame.toNat default with|true=>rw[cTq,aE ⟨by omega,by omega⟩,Bool.true_or]|false=>rw[cFq,aE ⟨by omega,by omega⟩,Bool.false_or])}
  by_cases e:x.Frame=-1;{have hin:M.inR (-1) 19 x.Frame=true:=(by rw[M.inR_iff];omega);rw[hin,bT,cFq,dT e,cTq];(cases hw:x.Write with|true=>have:M.slotOk x=false:=(by unfold M.slotOk;rw[dT e,hw];rfl);rw[this];rfl|false=>(cases hd:x.Dirty with|true=>have:M.slotOk x=false:=(by unfold M.slotOk;rw[dT e,hw,hd];rfl);rw[this];rfl|false=>have hx:M.slotOk x=true:=(by unfold M.slotOk;rw[dT e,hw,hd];rfl);rw[hx];simp only[cFq,oB,JO.run,hgo hx,oT,cTq];rw[aD (by omega) (by omega)]))}
  · by_cases hin:M.inR (-1) 19 x.Frame=true
    {have hr:=M.inR_iff.1 hin;have hx:M.slotOk x=true:=(by unfold M.slotOk;rw[dF e,cFq,bA,decide_eq_true_eq,decide_eq_true_eq];omega);rw[hin,bT,cFq,dF e,cFq,hx];simp only[oB,JO.run,hgo hx,oT,cTq];rw[aD (by omega) (by omega)]}
    · have hn:¬(-1<=x.Frame/\x.Frame<=19):=λc=>hin (M.inR_iff.2 c);have hx:M.slotOk x=false:=(by(cases hh:M.slotOk x with|false=>rfl|true=>have:=gC hh;omega));rw[Bool.eq_false_iff.2 hin,hx];rfl) (λs _=>by
  simp only[iJ,iT,h3];rw[dF (by omega),cFq]) p ht
theorem bEk{h:DHost}(hs:SmallH h)(hl:h.Guests.length=3):
 iter (jG h) (List.replicate 20 0,List.replicate 20 false,0)=some (.ret (bif h.Guests.all M.guestOk then .go (((M.slots h.Guests).foldl M.bump2 (List.replicate 20 0,List.replicate 20 false)).1,((M.slots h.Guests).foldl M.bump2 (List.replicate 20 0,List.replicate 20 false)).2)else .out false)):=by
 have key:=(pU (xs:=h.Guests) (step:=jG h) (λ(s:List Int×List Bool) j=>(s.1,s.2,j)) M.guestOk (λs g=>g.Pages.foldl M.bump2 s) (λs=>JO.go (s.1,s.2)) (.out false) (λj s=>Tw (8*j) s) (λk g s a1 a2 a3 a4=>by
  have hg:=hs.all g a2;have:=hg.c.regs;have:=hg.pages;have:=hg.i;have:=hg.o;refine⟨?_,λhx=>?_⟩;{simp only[jG,iT,dT a1,cTq,a3];rw[aE ⟨by omega,a1⟩];(cases hlv:g.Live with|false=>have e:lU (DGuest.mk false (DCore.mk g.C.Regs g.C.Pc g.C.Root g.C.Vector g.C.Saved g.C.SavedUser g.C.Cause g.C.Bad g.C.Timer g.C.Waits g.C.User g.C.On g.C.Stopped) g.Pages g.In g.Out)=some (decide (g=M.noGuest)):=(by have:=bJm hlv;obtain⟨l,c,p,i,o⟩:=g;simp only at hlv;subst hlv;exact this);rw[bF,cTq,e,oB];have e2:M.guestOk g=decide (g=M.noGuest):=(by unfold M.guestOk;rw[hlv];rfl);rw[e2];by_cases hz:g=M.noGuest;{rw[dT hz,hz];simp only[bT,cFq,oB,JO.run,pY,cTq,M.noGuest,List.foldl_nil];rw[aD (by omega) (by omega)]};{rw[dF hz];rfl}|true=>rw[bT,cFq];have e2:M.guestOk g=(M.coreOk g.C&&(decide (g.Pages.length=8)&&g.Pages.all M.slotOk)&&M.rowOk g.In&&M.rowOk g.Out):=(by unfold M.guestOk;rw[hlv];rfl);show Option.bind (Option.bind (jP g.C) _) _=_;rw[aPc (by omega),oB,e2];(cases hc:M.coreOk g.C with|false=>rfl|true=>rw[bT,cFq,Bool.true_and];by_cases hp:g.Pages.length=8;{rw[dT hp,show decide (((g.Pages.length:Nat):Int)=8)=true by simp;omega,bT,cFq,aEu (by omega),oB,aEu (by omega)];(cases hri:M.rowOk g.In with|false=>simp[JO.run]|true=>rw[bT,cFq,oB];(cases hro:M.rowOk g.Out with|false=>simp[JO.run]|true=>rw[bT,cFq,(aTj (by omega) a3 a4 (by omega)).1];(cases hpp:g.Pages.all M.slotOk with|false=>rfl|true=>simp only[cTq,oB,LO.val,JO.run,pY,Bool.and_self];rw[aD (by omega) (by omega)])))};{rw[dF hp,show decide (((g.Pages.length:Nat):Int)=8)=false by simp;omega];rfl}))}
  · obtain⟨q1,q2⟩:=fY hx;have:=(aTj q2 a3 a4 (by omega)).2 q1;exact⟨this.tl.mono (by omega),this.len⟩) (λs _=>by
  simp only[jG];rw[dF (by omega),cFq]) (List.replicate 20 0,List.replicate 20 false) ⟨Tl.zero.mono (by omega),by simp⟩).1
 rw[oA]at key;exact key
theorem bFf{ss:List DSlot}(h:ss.all M.slotOk=true):((List.range 20).all λf=>!(decide (1<M.many ss (f:Int))&&ss.any λs=>decide (s.Frame=(f:Int))&&s.Write))=M.alone ss:=by
 apply dbe;simp only[M.alone,List.all_eq_true,List.mem_range,Bool.not_eq_true',Bool.and_eq_false_iff,decide_eq_false_iff_not,List.any_eq_false,bA,decide_eq_true_eq,Bool.or_eq_true,not_and];constructor
 · intro q s hs
   cases hw:s.Write with
   |false=>exact .inl rfl
   |true=>
    have hx:=List.all_eq_true.1 h s hs;have hr:=gC hx;have hf:s.Frame≠-1:=λe=>by unfold M.slotOk at hx;rw[dT e,hw]at hx;simp at hx
    rcases q s.Frame.toNat (by omega)with q|q;{rw[show((s.Frame.toNat:Nat):Int)=s.Frame by omega]at q;exact .inr (by omega)};{exact absurd hw (by simpa using q s hs (by omega))}
 {intro q f hf;by_cases hm:1<M.many ss (f:Int);{refine .inr λs hs e=>?_;rcases q s hs with q|q;{simp[q]};{rw[e]at q;omega}};{exact .inl hm}}
theorem aAh{h:DHost}(hs:SmallH h):hY h=some (M.hostOk h):=by
 have:=hs.words;unfold hY M.hostOk;rw[bCo (by omega),oB];by_cases hl:h.Words.length=160
 · rw[dT (p:=(h.Words.length:Int)<=160) (by omega),dT hl]
   cases M.wordsOk h.Words with
   |false=>rfl
   |true=>
    rw[Bool.true_and,bT,cFq,dT (p:=((h.Words.length:Nat):Int)=160) (by omega),bT,cFq];by_cases hg:h.Guests.length=3
    · rw[dT hg,dT (p:=((h.Guests.length:Nat):Int)=3) (by omega),bT,cFq]
      rw[show Int.toNat (20:Int)=20 from rfl,bEk hs hg];cases ha:h.Guests.all M.guestOk with
      |false=>rfl
      |true=>
       have hsl:=tM ha;simp only[cTq,oB,LO.val,JO.run,wI,Bool.true_and];rw[aMg]
       have key:=aMq (n:=20) (step:=lI ((M.slots h.Guests).foldl M.bump (List.replicate 20 0),((M.slots h.Guests).foldl M.bump2 (List.replicate 20 0,List.replicate 20 false)).2)) (λk=>k) (λf=>!(decide (1<M.many (M.slots h.Guests) (f:Int))&&(M.slots h.Guests).any λs=>decide (s.Frame=(f:Int))&&s.Write)) (JO.go ()) (.out false) (λi hi=>by
        have q1:=zS hsl hi;have q2:=vC hsl;obtain⟨q3,q4⟩:=aMp hi (p:=(List.replicate 20 0,List.replicate 20 false)) (by simp) hsl;unfold M.takers at q1 q2;simp only[lI,iT];have e0:decide ((1:Int)<(List.foldl M.bump (List.replicate 20 0) (M.slots h.Guests)).getD i default)=decide (1<M.many (M.slots h.Guests) (i:Int)):=(by rw[decide_eq_decide,q1];omega);rw[dT (p:=(i:Int)<20) (by omega),cTq,aE ⟨by omega,by omega⟩,e0,q4];rw[show(List.replicate 20 false).getD i default=false by rw[bB (by rw[List.length_replicate];omega),List.getElem_replicate],Bool.false_or];by_cases e:1<M.many (M.slots h.Guests) (i:Int)
        · rw[dT e,cTq,aE ⟨by omega,by omega⟩]
          cases(M.slots h.Guests).any λs=>decide (s.Frame=(i:Int))&&s.Write with
          |true=>rfl
          |false=>simp only[cFq,oB,JO.run,pW,Bool.and_false,bF,cTq];rw[aD (by omega) (by omega)]
        · rw[dF e];simp only[cFq,oB,JO.run,pW,Bool.false_and,bF,cTq];rw[aD (by omega) (by omega)]) (by
        simp only[lI];rfl)
       rw[key,bFf hsl];cases M.alone (M.slots h.Guests)<;>rfl
    {rw[dF hg,dF (p:=((h.Guests.length:Nat):Int)=3) (by omega)];rfl}
 {rw[dF hl,dF (p:=((h.Words.length:Nat):Int)=160) (by omega)];cases(decide ((h.Words.length:Int)<=160)&&M.wordsOk h.Words)<;>rfl}
structure HOk (h : DHost) : Prop where
 len:h.Words.length=160
 words:M.wordsOk h.Words=true
 three:h.Guests.length=3
 all:h.Guests.all M.guestOk=true
 alone:M.alone (M.slots h.Guests)=true
theorem cK{h:DHost}:M.hostOk h=true↔HOk h:=by unfold M.hostOk;simp only[bA,decide_eq_true_eq];exact⟨λ⟨⟨⟨a,b⟩,c,d⟩,e⟩=>⟨a,b,c,d,e⟩,λh=>⟨⟨⟨h.len,h.words⟩,h.three,h.all⟩,h.alone⟩⟩
namespace M
noncomputable def there (h:DHost)(g:Int):Bool:=hostOk h&&(inR 0 2 g&&(h.Guests.getD g.toNat default).Live)
end M
theorem lD{h:DHost}{g:Int}:M.there h g=true↔HOk h/\0<=g/\g<=2/\(h.Guests.getD g.toNat default).Live=true:=by unfold M.there;rw[bA,bA,cK,M.inR_iff];exact⟨λ⟨a,⟨b,c⟩,d⟩=>⟨a,b,c,d⟩,λ⟨a,b,c,d⟩=>⟨a,⟨b,c⟩,d⟩⟩
theorem aZu{gs:List DGuest}{g:Int}(h3:gs.length=3):oD gs g=some (M.inR 0 2 g&&(gs.getD g.toNat default).Live):=by unfold oD M.inR;by_cases h0:0<=g;{by_cases h1:g<3;{rw[dT h0,dT h1,dT (p:=g<=2) (by omega),cTq,cTq,aE ⟨h0,by omega⟩];rfl};{rw[dT h0,dF h1,dF (p:=g<=2) (by omega)];rfl}};{rw[dF h0];rfl}
theorem vB{h:DHost}{g:Int}(hs:SmallH h):eA h g=some (M.there h g):=by unfold eA M.there;rw[vZ hs,oB];(cases hh:M.hostOk h with|false=>rfl|true=>have hk:=cK.1 hh;rw[cTq,aZu hk.three];rfl)
theorem aEa{h:DHost}{g:Int}(hs:SmallH h):fE h g=some (M.there h g):=by unfold fE M.there;rw[aAh hs,oB];(cases hh:M.hostOk h with|false=>rfl|true=>have hk:=cK.1 hh;have:=hk.three;rw[cTq,Bool.true_and,tZ,oB];(cases hi:M.inR 0 2 g with|false=>rfl|true=>have:=M.inR_iff.1 hi;rw[cTq,Bool.true_and,aE ⟨by omega,by omega⟩]))
theorem aQs{T:Type}{xs ys:List T}(h:xs.length=ys.length):over xs 0 xs.length ys=ys:=by simp only[over,h,Nat.min_self,List.take_length,Nat.zero_add,List.take_zero,List.nil_append];rw[List.drop_eq_nil_of_le (by omega),List.append_nil]
theorem kG{xs:List Int}(h:xs.length<=1048576):cL xs=some xs:=by unfold cL;rw[aE ⟨by omega,by omega,by omega⟩,aQs (by simp)]
theorem aIm{c:DCore}(h:SmallC c):fD c=some c:=by have:=h.regs;unfold fD;rw[aE ⟨by simp;omega,by simp;omega⟩];rfl
theorem aBp{xs ys:List Int}{o k a:Nat}(hk:ys.length=k)(ho:o+k<=xs.length):(over xs o k ys).getD a default=if a<o then xs.getD a default else if a<o+k then ys.getD (a-o) default else xs.getD a default:=by simp only[over,hk,Nat.min_self,List.getD_eq_getElem?_getD];rw[List.take_of_length_le (l:=ys) (i:=k) (by omega)];by_cases h1:a<o;{rw[if_pos h1,List.getElem?_append_left (by simp;omega),List.getElem?_take_of_lt h1]};{rw[if_neg h1,List.getElem?_append_right (by simp;omega)];have e:(xs.take o).length=o:=(by simp;omega);rw[e];by_cases h2:a<o+k;{rw[if_pos h2,List.getElem?_append_left (by omega)]};{rw[if_neg h2,List.getElem?_append_right (by omega),List.getElem?_drop];congr 2;omega}}
theorem aMa{xs ys:List Int}{o k:Nat}(ho:o+k<=xs.length):(over xs o k ys).length=xs.length:=aDc ho
theorem aBq{xs ys:List Int}{n:Nat}(h1:xs.length=n)(h2:ys.length=n)(h:∀a,a<n->xs.getD a default=ys.getD a default):xs=ys:=by apply List.ext_getElem (by omega);intro i q1 q2;have:=h i (by omega);rwa[bB q1,bB q2]at this
theorem aIf{xs:List Int}{o a:Nat}(ha:a<8):((xs.drop o).take 8).getD a default=xs.getD (o+a) default:=by simp only[List.getD_eq_getElem?_getD];rw[List.getElem?_take_of_lt ha,List.getElem?_drop]
theorem aSj{xs:List Int}{o:Nat}(h:o+8<=xs.length):((xs.drop o).take 8).length=8:=by simp;omega
namespace M
def word(ws:List Int)(ps:List DSlot)(a:Nat):Int:=if(ps.getD (a/8) default).Frame<0 then 0 else ws.getD ((ps.getD (a/8) default).Frame.toNat*8+a%8) default
def mem(ws:List Int)(ps:List DSlot):List Int:=(List.range 64).map (word ws ps)
def page(ws:List Int)(f:Nat):List Int:=(ws.drop (f*8)).take 8
noncomputable def hostView (h:DHost)(g:Int):DBare×Bool:=bif there h g then(⟨(h.Guests.getD g.toNat default).C,mem h.Words (h.Guests.getD g.toNat default).Pages,(h.Guests.getD g.toNat default).In,(h.Guests.getD g.toNat default).Out⟩,true)else(⟨noCore,[],[],[]⟩,false)
end M
theorem jR{ws:List Int}{ps:List DSlot}:(M.mem ws ps).length=64:=by simp[M.mem]
theorem qF{ws:List Int}{ps:List DSlot}{a:Nat}(ha:a<64):(M.mem ws ps).getD a default=M.word ws ps a:=by rw[bB (by rw[jR];exact ha)];simp[M.mem]
theorem aHn{xs:List Int}{f:Int}(h0:0<=f)(h1:f*8+8<=xs.length)(h2:f<=1000000):hT xs f=some (M.page xs f.toNat):=by unfold hT M.page;rw[aD (z:=f*8) (by omega) (by omega),aD (z:=f+1) (by omega) (by omega),aD (z:=(f+1)*8) (by omega) (by omega),aE ⟨by omega,by omega,by omega⟩];rw[show Int.toNat ((f+1)*8)-Int.toNat (f*8)=8 by omega,show Int.toNat (f*8)=f.toNat*8 by omega]
theorem aSc{xs:List Int}{f:Int}(h0:0<=f)(h1:f*8+8<=xs.length)(h2:f<=1000000):gV xs f=some (xs,(f.toNat*8,8)):=by unfold gV;rw[aD (z:=f*8) (by omega) (by omega),aD (z:=f+1) (by omega) (by omega),aD (z:=(f+1)*8) (by omega) (by omega),aE ⟨by omega,by omega,by omega⟩];rw[show Int.toNat ((f+1)*8)-Int.toNat (f*8)=8 by omega,show Int.toNat (f*8)=f.toNat*8 by omega]
theorem aDy{ps:List DSlot}(hp:ps.all M.slotOk=true){i:Nat}(hi:i<ps.length):-1<=(ps.getD i default).Frame/\(ps.getD i default).Frame<20:=gC (List.all_eq_true.1 hp _ (dN hi))
theorem bBp{ws:List Int}{ps:List DSlot}(hw:ws.length=160)(hl:ps.length=8)(hp:ps.all M.slotOk=true):jB ws ps=some (M.mem ws ps):=by
 unfold jB
 obtain⟨key,k2⟩:=vG (n:=8) (step:=iI ws ps) (λs j=>(s,j)) (λs i=>bif decide ((ps.getD i default).Frame=-1)then s else over s (i*8) 8 (M.page ws (ps.getD i default).Frame.toNat)) (λs=>JO.go s)
  (λk s=>s.length=64/\∀a,a<64->s.getD a default=if a<8*k then M.word ws ps a else 0) (λi s hi hs=>by
  have hr:=aDy hp (i:=i) (by omega);obtain⟨s1,s2⟩:=hs;simp only[iI,iT];rw[dT (p:=(i:Int)<_) (by omega),cTq,aE ⟨by omega,by omega⟩];by_cases e:(ps.getD i default).Frame=-1;{rw[dT e];simp only[bT,cTq,cFq,oB,JO.run,iD];rw[aD (by omega) (by omega)];refine⟨rfl,s1,λa ha=>?_⟩;rw[s2 a ha];by_cases e1:a<8*i;{rw[if_pos e1,if_pos (by omega)]};{by_cases e2:a<8*(i+1);{rw[if_neg e1,if_pos e2];unfold M.word;rw[show a/8=i by omega,if_pos (by omega)]};{rw[if_neg e1,if_neg e2]}}}
  · rw[dF e,bF,cTq,aSc (by omega) (by omega) (by omega),oB,aE rfl,aE (by simp only[];omega),aHn (by omega) (by omega) (by omega)]
    simp only[oB,JO.run,iD,cFq,iT];rw[aD (by omega) (by omega)];have hpl:(M.page ws (ps.getD i default).Frame.toNat).length=8:=aSj (by omega);refine⟨rfl,by rw[aMa (by omega),s1],λa ha=>?_⟩;rw[aBp hpl (by omega),s2 a ha];by_cases e1:a<8*i;{rw[if_pos (by omega),if_pos e1,if_pos (by omega)]}
    · by_cases e2:a<8*(i+1)
      {rw[if_neg (by omega),if_pos (by omega),if_pos e2];unfold M.page M.word;rw[aIf (by omega),show a/8=i by omega,if_neg (by omega)];congr 1;omega}
      · rw[if_neg (by omega),if_neg (by omega),if_neg e1,if_neg e2]) (λs _=>by
  simp only[iI];rw[dF (by omega),cFq]) (List.replicate 64 0) ⟨by simp,λa ha=>by rw[if_neg (by omega),bB (by rw[List.length_replicate];omega),List.getElem_replicate]⟩
 rw[show Int.toNat (64:Int)=64 from rfl,key];simp only[oB,LO.val,JO.run,kO];congr 1;refine aBq k2.1 jR λa ha=>?_;rw[k2.2 a ha,if_pos (by omega),qF ha]
theorem aBv{b:DBare}(hs:SmallB b):iF b=some b:=by unfold iF;rw[kG hs.c.regs,kG hs.mem,kG hs.i,kG hs.o];rfl
structure Live (h : DHost) (g : Int) (x : DGuest) : Prop where
 small:SmallG x
 ok:HOk h
 lo:0<=g
 hi:g<=2
 at_:h.Guests.getD g.toNat default=x
 live:x.Live=true
 core:M.coreOk x.C=true
 pages:x.Pages.length=8
 slots:x.Pages.all M.slotOk=true
 inn:M.rowOk x.In=true
 out:M.rowOk x.Out=true
theorem cC{h:DHost}{g:Int}(hs:SmallH h)(ht:M.there h g=true):Live h g (h.Guests.getD g.toNat default):=by obtain⟨hk,h0,h1,h2⟩:=lD.1 ht;have:=hk.three;have hm:=dN (xs:=h.Guests) (k:=g.toNat) (by omega);have ho:=List.all_eq_true.1 hk.all _ hm;unfold M.guestOk at ho;rw[h2,cTq]at ho;simp only[bA,decide_eq_true_eq]at ho;exact⟨hs.all _ hm,hk,h0,h1,rfl,h2,ho.1.1.1,ho.1.1.2.1,ho.1.1.2.2,ho.1.2,ho.2⟩
theorem bDb{h:DHost}{g:Int}{x:DGuest}(l:Live h g x):pL h g=some ⟨x.C,M.mem h.Words x.Pages,x.In,x.Out⟩:=by have:=l.ok.three;have:=l.lo;have:=l.hi;unfold pL;rw[aE ⟨l.lo,by omega⟩,l.at_,bBp l.ok.len l.pages l.slots];rfl
theorem lF{h:DHost}{g:Int}(hs:SmallH h):cS h g=some (M.hostView h g):=by unfold cS M.hostView;rw[vB hs,oB];(cases ht:M.there h g with|false=>rfl|true=>have l:=cC hs ht;rw[bT,cFq,bDb l,oB,aBv ⟨l.small.c,by simp[jR],l.small.i,l.small.o⟩];rfl)
theorem td8(i:Nat):Int.tdiv (i:Int) 8=((i/8:Nat):Int):=rfl
theorem tm8(i:Nat):Int.tmod (i:Int) 8=((i%8:Nat):Int):=rfl
theorem aNu{α:Type}{f:Nat->α}:∀(xs:List Nat) (s:List α),xs.foldl (λs i=>s++[f i]) s=s++xs.map f
 |[],s=>by simp
 |x::xs,s=>by rw[List.foldl_cons,aNu xs];simp
theorem aYi{h:DHost}{g:Int}(hs:SmallH h):mU h g=some (M.hostView h g):=by
 unfold mU M.hostView;rw[aEa hs,oB];cases ht:M.there h g with
 |false=>rfl
 |true=>
  have l:=cC hs ht;have:=l.ok.three;have:=l.lo;have:=l.hi;generalize hx:h.Guests.getD g.toNat default=x at l;have:=l.small.i;have:=l.small.o;rw[bT,cFq,aE ⟨l.lo,by omega⟩];show Option.bind (fD x.C) _=_;rw[aIm l.small.c,oB,aE ⟨by omega,by omega⟩,aE ⟨by omega,by omega⟩]
  have key:=(vG (n:=64) (step:=jU h g) (λs j=>(s,j)) (λs i=>s++[M.word h.Words x.Pages i]) (λs=>JO.go s) (λk s=>s.length=k) (λi s hi hs=>by
   have hlp:=l.pages;have hlw:=l.ok.len;have hr:=aDy l.slots (i:=i/8) (by omega);refine⟨?_,by simp;omega⟩;simp only[jU,hx,td8,tm8];rw[dT (p:=(i:Int)<64) (by omega),cTq,aD (z:=((i/8:Nat):Int)) (by omega) (by omega),iT,aE ⟨by omega,by omega⟩];unfold M.word;by_cases e:(x.Pages.getD (i/8) default).Frame<0;{rw[dT e,if_pos e,cTq,aE ⟨by simp;omega,by simp;omega⟩];simp only[oB,JO.run,nE];rw[aD (by omega) (by omega)]}
   · rw[dF e,if_neg e,cFq,aD (z:=(x.Pages.getD (i/8) default).Frame*8) (by omega) (by omega),aD (z:=(x.Pages.getD (i/8) default).Frame*8+((i%8:Nat):Int)) (by omega) (by omega),aE ⟨by omega,by omega⟩,aE ⟨by simp;omega,by simp;omega⟩];simp only[oB,JO.run,nE];rw[aD (by omega) (by omega),show Int.toNat ((x.Pages.getD (i/8) default).Frame*8+((i%8:Nat):Int))=(x.Pages.getD (i/8) default).Frame.toNat*8+i%8 by omega]) (λs _=>by
   simp only[jU];rfl) [] rfl).1
  rw[key,aNu];simp only[oB,LO.val,JO.run,uB,hx];rfl
theorem zQ{h:DHost}{g:Int}(hs:SmallH h):SmallB (M.hostView h g).1:=by unfold M.hostView;(cases ht:M.there h g with|false=>exact⟨⟨by simp[M.noCore]⟩,by simp,by simp,by simp⟩|true=>have l:=cC hs ht;exact⟨l.small.c,by simp[jR],l.small.i,l.small.o⟩)
namespace M
def freeStep(ss:List DSlot)(s:List Int)(i:Nat):List Int:=bif decide (many ss (i:Int)=0)then s++[(i:Int)]else s
def free(ss:List DSlot):List Int:=(List.range 20).foldl (freeStep ss) []
noncomputable def hostFree (h:DHost):List Int:=bif hostOk h then free (slots h.Guests)else[]
end M
theorem lL{ss:List DSlot}:M.free ss=((List.range 20).filter λ(i:Nat)=>decide (M.many ss (i:Int)=0)).map λ(i:Nat)=>(i:Int):=by
 have e:∀(xs:List Nat) (s:List Int),xs.foldl (M.freeStep ss) s=s++(xs.filter λ(i:Nat)=>decide (M.many ss (i:Int)=0)).map λ(i:Nat)=>(i:Int):=by
  intro xs;induction xs with
  |nil=>intro s;simp
  |cons x xs ih=>intro s;rw[List.foldl_cons,ih,List.filter_cons];unfold M.freeStep;cases decide (M.many ss (x:Int)=0)<;>simp
 unfold M.free;rw[e];simp
theorem aDe{ss:List DSlot}{s:List Int}{i n:Nat}(h:s.length<=n):(M.freeStep ss s i).length<=n+1:=by unfold M.freeStep;cases decide (M.many ss (i:Int)=0)<;>simp<;>omega
theorem zO{ss:List DSlot}:(M.free ss).length<=20:=by rw[lL,List.length_map];have:=List.length_filter_le (λ(i:Nat)=>decide (M.many ss (i:Int)=0)) (List.range 20);simpa using this
theorem bHb{h:DHost}(h3:h.Guests.length=3)(hall:h.Guests.all M.guestOk=true):mB h=some (M.takers (M.slots h.Guests)):=by
 have hin:∀(k:Nat) (g:DGuest) (xs:List Int) (h1:(k:Int)<(h.Guests.length:Int)) (h2:g∈h.Guests) (h3:h.Guests.getD k default=g) (h4:Tl (8*k) xs),
  iter (jF h (xs,(k:Int))) (xs,0)=some (.ret (.go (g.Pages.foldl M.bump xs)))/\Tl (8*k+g.Pages.length) (g.Pages.foldl M.bump xs):=by
  intro k g xs h1 h2 h3 h4;obtain⟨g1,g2⟩:=fY (List.all_eq_true.1 hall g h2)
  exact qJ (xs:=g.Pages) (step:=jF h (xs,(k:Int))) (λs j=>(s,j)) M.bump (λs=> .go s) (λj s=>Tl (8*k+j) s) (λj x s a1 a2 a3 a4=>by
   have hx:=List.all_eq_true.1 g1 x a2;have hr:=gC hx;have hl:=a4.len;refine⟨?_,a4.bump hx⟩;simp only[jF,iT,h3,dT a1,cTq];rw[aE ⟨by omega,h1⟩,aE ⟨by omega,h1⟩,aE ⟨by omega,a1⟩,a3];unfold M.bump;by_cases e:x.Frame=-1;{rw[dF (p:=(0:Int)<=x.Frame) (by omega),dT e];simp only[cTq,cFq,oB,JO.run,qA];rw[aD (by omega) (by omega)]}
   · have q1:=a4.low x.Frame.toNat (by omega);have q2:=a4.top x.Frame.toNat (by omega);rw[dT (p:=(0:Int)<=x.Frame) (by omega),dF e,cTq,aE ⟨by omega,by omega⟩,aE ⟨by omega,by omega⟩,aD (by omega) (by omega)];simp only[cTq,cFq,oB,JO.run,qA];rw[aD (by omega) (by omega)]) (λs _=>by
   simp only[jF,iT,h3];rw[aE ⟨by omega,h1⟩,dF (by omega),cFq]) xs h4
 have key:=(qJ (xs:=h.Guests) (step:=lO h) (λs j=>(s,j)) (λs g=>g.Pages.foldl M.bump s) (λs=> .go s) (λk s=>Tl (8*k) s) (λk g s a1 a2 a3 a4=>by
  obtain⟨b1,b2⟩:=hin k g s a1 a2 a3 a4;refine⟨?_,b2.mono (by have:=(fY (List.all_eq_true.1 hall g a2)).2;omega)⟩;simp only[lO,dT a1,cTq];rw[b1];simp only[oB,LO.val,JO.run,wB];rw[aD (by omega) (by omega)]) (λs _=>by
  simp only[lO];rw[dF (by omega),cFq]) (List.replicate 20 0) (Tl.zero.mono (by omega))).1
 unfold mB;rw[show Int.toNat (20:Int)=20 from rfl,key];simp only[oB,LO.val,JO.run,wP];rw[oA];rfl
theorem bJa{h:DHost}(hs:SmallH h)(hk:HOk h):mB h=some (M.takers (M.slots h.Guests)):=bHb hk.three hk.all
theorem aMk{ss:List DSlot}(hss:ss.all M.slotOk=true){i:Nat}(hi:i<20){s:List Int}(hl:s.length<=i){Y:Type}:
 (grd ((0:Int)<=(i:Int)/\(i:Int)<((List.length (M.takers ss):Nat):Int)) (cond (decide ((List.getD (M.takers ss) i default)=(0:Int))) (grd ((List.length s+List.length ([(i:Int)]:List Int))*8<=2^47/\List.length s+List.length ([(i:Int)]:List Int)<=2^47) (some (JO.go (s++([(i:Int)]:List Int))))) (some (JO.go s))):Option (JO (List Int) Y))=some (.go (M.freeStep ss s i)):=by
 have hl2:=vC hss;have e0:decide ((M.takers ss).getD i default=0)=decide (M.many ss (i:Int)=0):=(by rw[decide_eq_decide,zS hss hi];omega);rw[aE ⟨by omega,by omega⟩,e0];unfold M.freeStep;(cases decide (M.many ss (i:Int)=0)with|true=>rw[cTq,cTq,aE ⟨by simp;omega,by simp;omega⟩]|false=>rfl)
theorem aDn{gs:List DGuest}(hl:gs.length<=1048576)(h:gs.all M.guestOk=true):iP gs=some (M.free (M.slots gs)):=by
 have hss:=tM h;have hl2:=vC hss;unfold iP;rw[aOi hl h,oB]
 have key:=(vG (n:=20) (step:=iW (M.takers (M.slots gs))) (λs j=>(s,j)) (M.freeStep (M.slots gs)) (λs=>JO.go s) (λi s=>s.length<=i) (λi s hi hs=>by
  refine⟨?_,aDe hs⟩;simp only[iW,iT];rw[dT (p:=(i:Int)<_) (by omega),cTq,aMk hss hi hs,oB];simp only[JO.run,rO];rw[aD (by omega) (by omega)]) (λs _=>by
  simp only[iW];rw[dF (by omega),cFq]) [] (by simp)).1
 rw[key];rfl
theorem vP{h:DHost}(hs:SmallH h):eT h=some (M.hostFree h):=by unfold eT M.hostFree;rw[vZ hs,oB];(cases hh:M.hostOk h with|false=>rfl|true=>rw[bT,cFq,aDn hs.guests (cK.1 hh).all];rfl)
theorem aBa{h:DHost}(hs:SmallH h):gX h=some (M.hostFree h):=by
 unfold gX M.hostFree;rw[aAh hs,oB];cases hh:M.hostOk h with
 |false=>rfl
 |true=>
  have hk:=cK.1 hh;have hss:=tM hk.all;rw[bT,cFq,bJa hs hk,oB]
  have key:=(vG (n:=20) (step:=jW (M.takers (M.slots h.Guests))) (λs j=>(s,j)) (M.freeStep (M.slots h.Guests)) (λs=>JO.go s) (λi s=>s.length<=i) (λi s hi hs=>by
   refine⟨?_,aDe hs⟩;simp only[jW,iT];rw[dT (p:=(i:Int)<20) (by omega),cTq,aMk hss hi hs,oB];simp only[JO.run,sP];rw[aD (by omega) (by omega)]) (λs _=>by
   simp only[jW];rfl) [] (by simp)).1
  rw[key];rfl
theorem aOn{h:DHost}:(M.hostFree h).length<=20:=by unfold M.hostFree;cases M.hostOk h;{simp};{exact zO}
section
variable {T : Type} [Inhabited T] {f : T → T} {k : Nat} {xs : List T}
def up{T:Type}(f:T->T)(k:Nat)(xs:List T):List T:=xs.mapIdx λi x=>if i<k then f x else x
theorem aJp{i:Nat}:(up f k xs)[i]? =(xs[i]?).map λx=>if i<k then f x else x:=by simp[up]
theorem zN:(up f k xs).length=xs.length:=by simp[up]
theorem zL:up f 0 xs=xs:=by apply List.ext_getElem?;intro i;rw[aJp];cases xs[i]? <;>simp
theorem aCk(h:xs.length<=k):up f k xs=xs.map f:=by apply List.ext_getElem?;intro i;rw[aJp,List.getElem?_map];by_cases e:i<xs.length;{rw[List.getElem?_eq_getElem e];simp only[Option.map_some,if_pos (show i<k by omega)]};{rw[List.getElem?_eq_none (by omega)];rfl}
theorem aEi(h:k<xs.length):(up f k xs).set k (f (xs.getD k default))=up f (k+1) xs:=by apply List.ext_getElem?;intro i;rw[List.getElem?_set,aJp,aJp];by_cases e:k=i;{subst e;rw[if_pos rfl,if_pos (by rw[zN];exact h),List.getElem?_eq_getElem h,bB h];simp};{rw[if_neg e];(cases xs[i]? with|none=>rfl|some x=>simp only[Option.map_some];by_cases q:i<k;{rw[if_pos q,if_pos (by omega)]};{rw[if_neg q,if_neg (by omega)]})}
theorem bGh{i:Nat}(h:i<xs.length):(up f k xs).getD i default=if i<k then f (xs.getD i default)else xs.getD i default:=by rw[List.getD_eq_getElem?_getD,aJp,List.getElem?_eq_getElem h,bB h];rfl
theorem aJg(h:k<xs.length):(up f k xs).getD k default=xs.getD k default:=by rw[bGh h,if_neg (by omega)]
end
namespace M
def mapG(f:DSlot->DSlot)(g:DGuest):DGuest:=⟨g.Live,g.C,g.Pages.map f,g.In,g.Out⟩
def upG(f:DSlot->DSlot)(j:Nat)(g:DGuest):DGuest:=⟨g.Live,g.C,up f j g.Pages,g.In,g.Out⟩
end M
section
variable {f : DSlot → DSlot} {k j : Nat} {gs : List DGuest}
theorem bDl{g:DGuest}:M.upG f 0 g=g:=by unfold M.upG;rw[zL]
theorem bHf{g:DGuest}(h:g.Pages.length<=j):M.upG f j g=M.mapG f g:=by unfold M.upG M.mapG;rw[aCk h]
end
theorem bEh{ss:List DSlot}{q:Int}:0<M.many ss q↔∃s∈ss,s.Frame=q:=by unfold M.many;rw[List.countP_pos_iff];simp
theorem bCw{T U:Type}[Inhabited T][Inhabited U]{f:T->U}{xs:List T}{j:Nat}(h:j<xs.length):(xs.map f).getD j default=f (xs.getD j default):=by rw[bB (by rw[List.length_map];exact h),bB h,List.getElem_map]
theorem bCv{ss tt:List DSlot}(h:∀f:Nat,f<20->M.many ss (f:Int)=0->M.many tt (f:Int)=0):(M.free ss).length<=(M.free tt).length:=by rw[lL,lL,List.length_map,List.length_map,<-List.countP_eq_length_filter,<-List.countP_eq_length_filter];refine List.countP_mono_left λf hf hm=>?_;rw[decide_eq_true_eq]at hm ⊢;exact h f (List.mem_range.1 hf) hm
theorem aZn {T:Type} [Inhabited T] {xs ys:List T} {step:List T×Int->Option (LO (List T×Int) (JO (List T) (List T)))} (hl:ys.length=xs.length)
 (hs:∀(k:Nat) (zs:List T),k<xs.length->zs.length=xs.length->step (zs,(k:Int))=some (.next (zs.set k (xs.getD k default),(k:Int)+1)))
 (he:∀zs:List T,zs.length=xs.length->step (zs,(xs.length:Int))=some (.ret (.go zs))):iter step (ys,0)=some (.ret (.go xs)):=by
 have key:∀(n k:Nat) (zs:List T),k+n=xs.length->zs.length=xs.length->(∀i,i<k->zs[i]? =xs[i]?)->iter step (zs,(k:Int))=some (.ret (.go xs)):=by
  intro n;induction n with
  |zero=>intro k zs hk hz h;have e:zs=xs:=(by apply List.ext_getElem?;intro i;by_cases hi:i<k;{exact h i hi};{rw[List.getElem?_eq_none (by omega),List.getElem?_eq_none (by omega)]});have hk:k=xs.length:=(by omega);rw[cU,hk,he zs hz,e]
  |succ n ih=>
   intro k zs hk hz h;rw[cU,hs k zs (by omega) hz]
   have:=ih (k+1) (zs.set k (xs.getD k default)) (by omega) (by simpa using hz) (λi hi=>by
    rw[List.getElem?_set];by_cases e:k=i;{subst e;rw[if_pos rfl,if_pos (by omega),bB (by omega),List.getElem?_eq_getElem (by omega)]}
    · rw[if_neg e];exact h i (by omega))
   simpa using this
 simpa using key xs.length 0 ys (by omega) hl (by simp)
theorem oE{xs:List DSlot}(h:xs.length<=1048576):dM xs=some xs:=by unfold dM;rw[aE ⟨by omega,by omega,by omega⟩,aQs (by simp)]
theorem aSz{g:DGuest}(h:M.guestOk g=true)(hl:g.Live=false):g=M.noGuest:=by unfold M.guestOk at h;rw[hl,cFq,decide_eq_true_eq]at h;exact h
theorem yS{g:DGuest}(hs:SmallG g)(h:M.guestOk g=true):dP g=some g:=by unfold dP;(cases hl:g.Live with|false=>have:=aSz h hl;subst this;rfl|true=>rw[bT,cFq,kG hs.c.regs,oE hs.pages,kG hs.i,kG hs.o];simp only[oB];rw[<-hl])
theorem aVf{g:DGuest}(hs:SmallG g)(h:M.guestOk g=true):fS g=some g:=by have:=hs.pages;have:=hs.i;have:=hs.o;unfold fS;(cases hl:g.Live with|false=>have:=aSz h hl;subst this;rfl|true=>rw[bT,cFq,aIm hs.c,oB,aE ⟨by omega,by omega⟩,aE ⟨by omega,by omega⟩,aE ⟨by omega,by omega⟩,<-hl])
theorem xB{gs:List DGuest}(hl:gs.length<=1048576)(hs:∀g∈gs,SmallG g)(h:gs.all M.guestOk=true):fL gs=some gs:=by
 unfold fL;rw[aE ⟨by omega,by omega,by omega⟩]
 have key:=aZn (xs:=gs) (ys:=List.replicate (Int.toNat (gs.length:Int)) M.noGuest) (step:=eH gs) (by simp) (λk zs hk hz=>by
  have h1:(k:Int)<(gs.length:Int):=(by omega);simp only[eH,dT h1,cTq];rw[aE ⟨by omega,h1⟩,iT];show Option.bind (dP (gs.getD k default)) _=_;rw[yS (hs _ (dN hk)) (List.all_eq_true.1 h _ (dN hk)),oB,aE ⟨by omega,by omega⟩,aD (by omega) (by omega)]) (λzs hz=>by
  simp only[eH];rw[dF (by omega),cFq])
 show Option.bind (Option.bind (iter (eH gs) (List.replicate (Int.toNat (gs.length:Int)) M.noGuest,0)) LO.val) _=_;rw[key];rfl
theorem aKh{h:DHost}(hs:SmallH h)(hg:h.Guests.all M.guestOk=true):iA h=some h:=by
 have:=hs.words;have:=hs.guests;unfold iA;rw[aE ⟨by simp;omega,by simp;omega⟩]
 have key:=(qJ (xs:=h.Guests) (step:=lE h) (λs j=>(s,j)) (λs g=>s++[g]) (λs=>JO.go s) (λj s=>s.length=j) (λk g s a1 a2 a3 a4=>by
  refine⟨?_,by simp;omega⟩;simp only[lE,dT a1,cTq,iT,a3];rw[aE ⟨by omega,a1⟩];show Option.bind (fS g) _=_;rw[aVf (hs.all g a2) (List.all_eq_true.1 hg g a2),oB,aE ⟨by omega,by omega⟩,aD (by omega) (by omega)]) (λs _=>by
  simp only[lE];rw[dF (by omega),cFq]) [] rfl).1
 rw[key]
 have e:∀(xs ys:List DGuest),xs.foldl (λs g=>s++[g]) ys=ys++xs:=by
  intro xs;induction xs with
  |nil=>intro ys;simp
  |cons x xs ih=>intro ys;rw[List.foldl_cons,ih];simp
 rw[e];rfl
namespace M
noncomputable def hostDrop (h:DHost)(g:Int):DHost×Bool:=bif there h g then(⟨h.Words,h.Guests.set g.toNat noGuest⟩,true)else(⟨[],[]⟩,false)
end M
theorem aGj{h:DHost}{g:Int}{x:DGuest}(hs:SmallH h)(hk:HOk h)(h0:0<=g)(h1:g<=2):eK h.Guests g x=some (h.Guests.set g.toNat x):=by have:=hk.three;unfold eK;rw[xB hs.guests hs.all hk.all,oB,aE ⟨by omega,by omega⟩]
theorem aXm{h:DHost}{g:Int}(hs:SmallH h):mL h g=some (M.hostDrop h g):=by unfold mL M.hostDrop;rw[aEa hs,oB];(cases ht:M.there h g with|false=>rfl|true=>obtain⟨hk,h0,h1,-⟩:=lD.1 ht;have:=hk.three;rw[bT,cFq,aKh hs hk.all,oB,aE ⟨h0,by omega⟩];rfl)
namespace M
def zeros(xs:List Int):Bool:=(List.range 8).all λk=>decide (xs.getD k default=0)
def used(mem:List Int):Nat->Nat
 |0=>0
 |p+1=>used mem p+(bif zeros (page mem p)then 0 else 1)
def slotFor(mem free:List Int)(p:Nat):DSlot:=bif zeros (page mem p)then⟨-1,false,false⟩else⟨free.getD (used mem p) default,true,false⟩
def slotsFor(mem free:List Int)(n:Nat):List DSlot:=(List.range n).map (slotFor mem free)
def wordsFor(mem free:List Int)(ws:List Int):Nat->List Int
 |0=>ws
 |p+1=>bif zeros (page mem p)then wordsFor mem free ws p else over (wordsFor mem free ws p) ((free.getD (used mem p) default).toNat*8) 8 (page mem p)
noncomputable def gone (gs:List DGuest):Int:=bif (gs.getD 0 default).Live then(bif (gs.getD 1 default).Live then(bif (gs.getD 2 default).Live then-1 else 2)else 1)else 0
noncomputable def placed (h:DHost)(b:DBare)(a:Nat):DHost:=⟨wordsFor b.Mem (free (slots h.Guests)) h.Words 8,h.Guests.set a ⟨true,b.C,slotsFor b.Mem (free (slots h.Guests)) 8,b.In,b.Out⟩⟩
noncomputable def booted (h:DHost)(b:DBare):DHost:=⟨wordsFor b.Mem (free (slots h.Guests)) h.Words 8,h.Guests.set (gone h.Guests).toNat ⟨true,b.C,slotsFor b.Mem (free (slots h.Guests)) 8,b.In,b.Out⟩⟩
noncomputable def hostBoot (h:DHost)(b:DBare):DHost×Int×Bool:=bif hostOk h&&bareOk b&&(!decide (gone h.Guests=-1)&&decide (used b.Mem 8<=(free (slots h.Guests)).length))then(booted h b,gone h.Guests,true)else(⟨[],[]⟩,-1,false)
end M
theorem tR{mem:List Int}{p q:Nat}(h:p<=q):M.used mem p<=M.used mem q:=by
 induction h with
 |refl=>exact Nat.le_refl _
 |step _ ih=>exact Nat.le_trans ih (by rw[M.used];omega)
theorem bGr{mem:List Int}{p:Nat}:M.used mem p<=p:=by
 induction p with
 |zero=>exact Nat.le_refl _
 |succ p ih=>rw[M.used];cases M.zeros (M.page mem p)<;>simp<;>omega
theorem oL{mem:List Int}{L n:Nat}:((List.range n).all λp=>M.zeros (M.page mem p)||decide (M.used mem p<L))=decide (M.used mem n<=L):=by
 apply dbe;simp only[List.all_eq_true,List.mem_range,Bool.or_eq_true,decide_eq_true_eq];constructor
 · intro h
   induction n with
   |zero=>simp[M.used]
   |succ n ih=>have h1:=ih λp hp=>h p (by omega);rcases h n (by omega)with h2|h2;{rw[M.used,h2];exact h1};{rw[M.used];cases M.zeros (M.page mem n)<;>simp<;>omega}
 {intro h p hp;(cases hz:M.zeros (M.page mem p)with|true=>exact .inl rfl|false=>have:=tR (mem:=mem) (show p+1<=n by omega);rw[M.used,hz]at this;simp only[cFq]at this;exact .inr (by omega))}
theorem rL{ss:List DSlot}{i:Nat}(hi:i<(M.free ss).length):0<=(M.free ss).getD i default/\(M.free ss).getD i default<20:=by have hm:=dN hi;rw[lL]at hm;obtain⟨j,hj,e⟩:=List.mem_map.1 hm;have:=(List.mem_filter.1 hj).1;rw[List.mem_range]at this;rw[lL,<-e];omega
theorem xG{xs:List Int}{p:Nat}(h:p*8+8<=xs.length):(M.page xs p).length=8:=aSj h
theorem aXq{xs:List Int}(h:xs.length=8):mS xs=some (M.zeros xs):=by
 unfold mS M.zeros
 have key:=cN (n:=8) (step:=gO xs) (λi=>(i:Int)) (λk=>decide (xs.getD k default=0)) (JO.go ()) (.out false) (λi hi _=>by
  simp only[gO,iT];rw[dT (p:=(i:Int)<_) (by omega),cTq,aE ⟨by omega,by omega⟩,aD (by omega) (by omega)];cases decide (xs.getD i default=0)<;>rfl) (λ_=>by
  simp only[gO];rw[dF (by omega),cFq])
 show Option.bind (Option.bind (iter (gO xs) ((0:Nat):Int)) LO.val) _=_;rw[key];cases(List.range 8).all λk=>decide (xs.getD k default=0)<;>rfl
theorem aVa{T:Type}{n:Nat}{f:Nat->T}{z x:T}{p:Nat}(hp:p<n)(hx:x=f p):((List.range p).map f++List.replicate (n-p) z).set p x=(List.range (p+1)).map f++List.replicate (n-(p+1)) z:=by rw[List.set_append_right _ _ (by simp),show n-p=(n-(p+1))+1 by omega,List.replicate_succ];simp[List.range_succ,hx]
theorem aYs{mem free:List Int}(hm:mem.length=64)(hf:free.length<=20):mQ mem free=some (bif decide (M.used mem 8<=free.length)then(M.slotsFor mem free 8,true)else([],false)):=by
 unfold mQ
 have key:=cN (n:=8) (step:=kF mem free) (λp=>(M.slotsFor mem free p++List.replicate (8-p) ⟨0,false,false⟩,(M.used mem p:Int),(p:Int))) (λp=>M.zeros (M.page mem p)||decide (M.used mem p<free.length)) (JO.go (M.slotsFor mem free 8)) (.out ([],false)) (λi hi _=>by
  have hu:=bGr (mem:=mem) (p:=i);have hl:(M.slotsFor mem free i++List.replicate (8-i) (⟨0,false,false⟩:DSlot)).length=8:=(by simp[M.slotsFor];omega);simp only[kF,iT];rw[dT (p:=(i:Int)<_) (by simp;omega),cTq,aHn (by omega) (by omega) (by omega),oB,iT,aXq (xG (by omega)),oB];have eu:M.used mem (i+1)=M.used mem i+(bif M.zeros (M.page mem i)then 0 else 1):=rfl;cases hz:M.zeros (M.page mem i)with
  |true=>rw[hz]at eu;simp only[cTq,Nat.add_zero]at eu;rw[cTq,aE ⟨by omega,by omega⟩];simp only[oB,JO.run,nW,Bool.true_or,cTq,eu];rw[aD (by omega) (by omega)];have:(⟨-1,false,false⟩:DSlot)=M.slotFor mem free i:=(by unfold M.slotFor;rw[hz];rfl);rw[show M.slotsFor mem free i=(List.range i).map (M.slotFor mem free)from rfl,aVa hi this];rfl
  |false=>
   rw[hz]at eu;simp only[cFq]at eu;rw[cFq,Bool.false_or];by_cases e:M.used mem i<free.length;{rw[dT e,dF (p:=(M.used mem i:Int)=_) (by omega),cFq,aE ⟨by omega,by omega⟩,aE ⟨by omega,by omega⟩];simp only[oB,JO.run,nW,cTq,eu];rw[aD (z:=(M.used mem i:Int)+1) (by omega) (by omega),aD (by omega) (by omega)];have:(⟨free.getD (M.used mem i) default,true,false⟩:DSlot)=M.slotFor mem free i:=(by unfold M.slotFor;rw[hz];rfl);rw[show M.slotsFor mem free i=(List.range i).map (M.slotFor mem free)from rfl,aVa hi this];rfl}
   · have:=‹∀j,j<i->_›;have h2:((List.range i).all λp=>M.zeros (M.page mem p)||decide (M.used mem p<free.length))=true:=(by simp only[List.all_eq_true,List.mem_range];exact this);rw[oL,decide_eq_true_eq]at h2;rw[dF e,dT (p:=(M.used mem i:Int)=_) (by omega)];rfl) (λ_=>by
  simp only[kF];rw[dF (by simp),cFq];simp)
 rw[oL]at key;rw[show((List.replicate (Int.toNat (8:Int)) (DSlot.mk (0:Int) false false)),(0:Int),(0:Int))=(M.slotsFor mem free 0++List.replicate (8-0) ⟨0,false,false⟩,((M.used mem 0:Nat):Int),((0:Nat):Int))from rfl,key];cases decide (M.used mem 8<=free.length)<;>rfl
theorem gK{mem ws:List Int}{ss:List DSlot}(hw:ws.length=160):∀{p:Nat},p<=8->M.used mem p<=(M.free ss).length->(M.wordsFor mem (M.free ss) ws p).length=160
 |0,_,_=>hw
 |p+1,h8,hu=>by have eu:M.used mem (p+1)=M.used mem p+(bif M.zeros (M.page mem p)then 0 else 1):=rfl;have ih:=gK (mem:=mem) (ss:=ss) hw (p:=p) (by omega) (by omega);unfold M.wordsFor;(cases hz:M.zeros (M.page mem p)with|true=>rw[cTq];exact ih|false=>rw[hz]at eu;simp only[cFq]at eu;have:=rL (ss:=ss) (i:=M.used mem p) (by omega);rw[cFq,aMa (by omega),ih])
theorem aSw{mem ws:List Int}{ss:List DSlot}(hm:mem.length=64)(hw:ws.length=160)(hu:M.used mem 8<=(M.free ss).length):fT ws (M.slotsFor mem (M.free ss) 8) mem=some (M.wordsFor mem (M.free ss) ws 8):=by
 unfold fT;rw[kG (by omega),oB]
 have key:=cN (n:=8) (step:=fF (M.slotsFor mem (M.free ss) 8) mem) (λp=>(M.wordsFor mem (M.free ss) ws p,(p:Int))) (λ_=>true) (JO.go (M.wordsFor mem (M.free ss) ws 8)) (.out []) (λi hi _=>by
  have hmo:=tR (mem:=mem) (show i+1<=8 by omega);have eu:M.used mem (i+1)=M.used mem i+(bif M.zeros (M.page mem i)then 0 else 1):=rfl;have hlen:=gK (mem:=mem) (ss:=ss) hw (p:=i) (by omega) (by omega);have hg:(M.slotsFor mem (M.free ss) 8).getD i default=M.slotFor mem (M.free ss) i:=(by rw[bB (by simpa[M.slotsFor]using hi)];simp[M.slotsFor]);have hl8:(M.slotsFor mem (M.free ss) 8).length=8:=(by simp[M.slotsFor]);simp only[fF,iT];have e0:decide (((M.slotsFor mem (M.free ss) 8).getD i default).Frame=-1)=decide ((M.slotFor mem (M.free ss) i).Frame=-1):=(by rw[hg]);rw[dT (p:=(i:Int)<_) (by omega),cTq,aE ⟨by omega,by omega⟩,e0,hg,cTq];have ew:M.wordsFor mem (M.free ss) ws (i+1)=(bif M.zeros (M.page mem i)then M.wordsFor mem (M.free ss) ws i else over (M.wordsFor mem (M.free ss) ws i) (((M.free ss).getD (M.used mem i) default).toNat*8) 8 (M.page mem i)):=rfl;cases hz:M.zeros (M.page mem i)with
  |true=>have:M.slotFor mem (M.free ss) i=⟨-1,false,false⟩:=(by unfold M.slotFor;rw[hz];rfl);rw[hz,cTq]at ew;rw[this,dT rfl,ew];simp only[bT,cFq,oB,JO.run,fJ];rw[aD (by omega) (by omega)];rfl
  |false=>have:M.slotFor mem (M.free ss) i=⟨(M.free ss).getD (M.used mem i) default,true,false⟩:=(by unfold M.slotFor;rw[hz];rfl);rw[hz,cFq]at ew;rw[hz]at eu;simp only[cFq]at eu;have hr:=rL (ss:=ss) (i:=M.used mem i) (by omega);rw[this,ew,dF (by simp only[];omega),bF,cTq,aSc (by simp only[];omega) (by simp only[];omega) (by simp only[];omega),oB,aE rfl,aE (by simp only[];omega),aHn (by omega) (by omega) (by omega),oB,iT];simp only[oB,JO.run,fJ];rw[aD (by omega) (by omega)];rfl) (λ_=>by
  simp only[fF];rw[dF (by simp[M.slotsFor]),cFq])
 rw[show((ws,(0:Int)):List Int×Int)=(M.wordsFor mem (M.free ss) ws 0,((0:Nat):Int))from rfl,key,show(List.range 8).all (λ_=>true)=true by simp];simp only[cTq,oB,LO.val,JO.run,jK]
theorem aSn{gs:List DGuest}(h:gs.length=3):lG gs=some (M.gone gs):=by
 unfold lG;have st:∀i:Nat,i<3->fN gs (i:Int)=some (bif (gs.getD i default).Live then .next ((i+1:Nat):Int)else .ret (.out (i:Int))):=λi hi=>by simp only[fN,iT];rw[dT (p:=(i:Int)<_) (by omega),cTq,aE ⟨by omega,by omega⟩,aD (by omega) (by omega)];cases(gs.getD i default).Live<;>rfl
 have s3:fN gs ((3:Nat):Int)=some (.ret (.go ())):=(by simp only[fN];rw[dF (by omega),cFq]);have s0:=st 0 (by omega);have s1:=st 1 (by omega);have s2:=st 2 (by omega);unfold M.gone;rw[show(0:Int)=((0:Nat):Int)from rfl,cU,s0];(cases(gs.getD 0 default).Live with|false=>rfl|true=>simp only[cTq];rw[show(0+1:Nat)=1 from rfl,cU,s1];(cases(gs.getD 1 default).Live with|false=>rfl|true=>simp only[cTq];rw[show(1+1:Nat)=2 from rfl,cU,s2];(cases(gs.getD 2 default).Live with|false=>rfl|true=>simp only[cTq];rw[show(2+1:Nat)=3 from rfl,cU,s3];rfl)))
theorem zV(gs:List DGuest):-1<=M.gone gs/\M.gone gs<=2:=by unfold M.gone;cases(gs.getD 0 default).Live<;>cases(gs.getD 1 default).Live<;>cases(gs.getD 2 default).Live<;>simp
theorem aCs{b:DBare}(h:M.bareOk b=true):b.Mem.length=64:=by unfold M.bareOk at h;simp only[bA]at h;exact aZs h.1.1.2
theorem aKu{h:DHost}{g:Int}{b:DBare}(hs:SmallH h)(hk:HOk h)(hb:SmallB b)(hbk:M.bareOk b=true)(h0:0<=g)(h1:g<=2):eE h g b=some (bif decide (M.used b.Mem 8<=(M.free (M.slots h.Guests)).length)then(M.placed h b g.toNat,true)else(⟨[],[]⟩,false)):=by have hm:=aCs hbk;unfold eE;rw[aDn hs.guests hk.all,oB,aYs hm zO,oB];by_cases e2:M.used b.Mem 8<=(M.free (M.slots h.Guests)).length;{rw[dT e2];simp only[cTq,bT,cFq];rw[aBv hb,oB,aSw hm hk.len e2,oB,aGj hs hk h0 h1];rfl};{rw[dF e2];rfl}
namespace M
def keep(s:DSlot):DSlot:=⟨s.Frame,false,s.Dirty⟩
def fresh(s:DSlot):DSlot:=⟨s.Frame,false,false⟩
def cloned(gs:List DGuest)(g a:Nat):List DGuest:=(gs.set g (mapG keep (gs.getD g default))).set a (mapG fresh (gs.getD g default))
noncomputable def hostClone (h:DHost)(g:Int):DHost×Int×Bool:=bif there h g&&decide (gone h.Guests≠-1)then(⟨h.Words,cloned h.Guests g.toNat (gone h.Guests).toNat⟩,gone h.Guests,true)else(⟨[],[]⟩,-1,false)
def nowhere:DSlot:=⟨-1,false,false⟩
def give(ps:List DSlot)(qs:List Int):List DSlot:=qs.foldl (λps q=>ps.set q.toNat nowhere) ps
def giveG(x:DGuest)(qs:List Int):DGuest:=⟨x.Live,x.C,give x.Pages qs,x.In,x.Out⟩
noncomputable def hostGive (h:DHost)(g:Int)(qs:List Int):DHost×Bool:=bif there h g&&qs.all (inR 0 7)then(⟨h.Words,h.Guests.set g.toNat (giveG (h.Guests.getD g.toNat default) qs)⟩,true)else(⟨[],[]⟩,false)
end M
theorem aBr{ss tt:List DSlot}{f:Int}:M.many (ss++tt) f=M.many ss f+M.many tt f:=by simp only[M.many,List.countP_append]
theorem vM{x:DGuest}{gs:List DGuest}:M.slots (x::gs)=x.Pages++M.slots gs:=by simp only[M.slots,List.flatMap_cons]
theorem qP{y:DGuest}{f:Int}:∀{gs:List DGuest} {i:Nat},i<gs.length->M.many (M.slots (gs.set i y)) f+M.many (gs.getD i default).Pages f=M.many (M.slots gs) f+M.many y.Pages f
 |[],i,h=>by simp at h
 |g::gs,0,_=>by rw[List.set_cons_zero,vM,vM,aBr,aBr];show M.many y.Pages f+M.many (M.slots gs) f+M.many g.Pages f=_;omega
 |g::gs,i+1,h=>by have ih:=qP (y:=y) (f:=f) (gs:=gs) (i:=i) (by simpa using h);rw[List.set_cons_succ,vM,vM,aBr,aBr];show M.many g.Pages f+M.many (M.slots (gs.set i y)) f+M.many (gs.getD i default).Pages f=_;omega
theorem aPr{gs:List DGuest}{i:Nat}{f:Int}(h:i<gs.length):M.many (gs.getD i default).Pages f<=M.many (M.slots gs) f:=by have:=qP (y:=M.noGuest) (f:=f) h;have e:M.many M.noGuest.Pages f=0:=rfl;omega
theorem bCf{gs:List DGuest}{i j:Nat}{f:Int}(hi:i<gs.length)(hj:j<gs.length)(h:i≠j):M.many (gs.getD i default).Pages f+M.many (gs.getD j default).Pages f<=M.many (M.slots gs) f:=by have a:=qP (y:=M.noGuest) (f:=f) hi;have b:=aPr (gs:=gs.set i M.noGuest) (i:=j) (f:=f) (by rw[lS];exact hj);have e:(gs.set i M.noGuest).getD j default=gs.getD j default:=(by rw[bB (by rw[lS];exact hj),List.getElem_set_ne h,<-bB]);rw[e]at b;have e0:M.many M.noGuest.Pages f=0:=rfl;omega
theorem nS{gs:List DGuest}{i:Nat}{y:DGuest}(h:i<gs.length):(gs.set i y).getD i default=y:=by rw[bB (by rw[lS];exact h),List.getElem_set_self]
theorem rW{gs:List DGuest}{i j:Nat}{y:DGuest}(hj:j<gs.length)(h:i≠j):(gs.set i y).getD j default=gs.getD j default:=by rw[bB (by rw[lS];exact hj),List.getElem_set_ne h,<-bB]
theorem aMi{f:Int}:∀{ps:List DSlot},M.many (ps.map M.keep) f=M.many ps f
 |[]=>rfl
 |s::ps=>by rw[List.map_cons,gU,gU,aMi];rfl
theorem aJx{f:Int}:∀{ps:List DSlot},M.many (ps.map M.fresh) f=M.many ps f
 |[]=>rfl
 |s::ps=>by rw[List.map_cons,gU,gU,aJx];rfl
theorem xM{gs:List DGuest}:M.alone (M.slots gs)=true↔∀i,i<gs.length->∀s∈(gs.getD i default).Pages,s.Write=true->M.many (M.slots gs) s.Frame<=1:=by unfold M.alone;rw[List.all_eq_true];constructor;{intro h i hi s hs hw;have:=h s (List.mem_flatMap.2 ⟨_,dN hi,hs⟩);rw[hw]at this;exact of_decide_eq_true this};{intro h s hs;obtain⟨x,hx,hs⟩:=List.mem_flatMap.1 hs;obtain⟨i,hi,e⟩:=List.getElem_of_mem hx;(cases hw:s.Write with|false=>rfl|true=>exact dT (h i hi s (by rw[bB hi,e];exact hs) hw))}
theorem aAc{x:DGuest}(hl:x.Live=true):M.guestOk x=true↔M.coreOk x.C=true/\x.Pages.length=8/\x.Pages.all M.slotOk=true/\M.rowOk x.In=true/\M.rowOk x.Out=true:=by
 unfold M.guestOk;rw[hl,cTq];simp only[bA,decide_eq_true_eq];constructor
 · rintro⟨⟨⟨a,b,c⟩,d⟩,e⟩;exact⟨a,b,c,d,e⟩
 · rintro⟨a,b,c,d,e⟩;exact⟨⟨⟨a,b,c⟩,d⟩,e⟩
theorem aXe{x:DGuest}(hl:x.Live=false)(h:M.guestOk x=true):x=M.noGuest:=by unfold M.guestOk at h;rw[hl,cFq,decide_eq_true_eq]at h;exact h
theorem aBk{gs:List DGuest}(h:gs.all M.guestOk=true){i:Nat}(hi:i<gs.length):M.guestOk (gs.getD i default)=true:=List.all_eq_true.1 h _ (dN hi)
theorem aLm{gs:List DGuest}(h:gs.all M.guestOk=true){i:Nat}{y:DGuest}(hy:M.guestOk y=true):(gs.set i y).all M.guestOk=true:=by rw[List.all_eq_true];intro z hz;rcases List.mem_or_eq_of_mem_set hz with hz|rfl;{exact List.all_eq_true.1 h z hz};{exact hy}
theorem aVn{s:DSlot}(h:M.slotOk s=true):M.slotOk (M.keep s)=true:=by unfold M.slotOk M.keep at*;by_cases e:s.Frame=-1;{rw[dT e,cTq]at h ⊢;rw[bA]at h;rw[h.2];rfl};{rw[dF e,cFq]at h ⊢;exact h}
theorem bDa{s:DSlot}(h:M.slotOk s=true):M.slotOk (M.fresh s)=true:=by unfold M.slotOk M.fresh at*;by_cases e:s.Frame=-1;{rw[dT e];rfl};{rw[dF e,cFq]at h ⊢;exact h}
theorem bAb{f:DSlot->DSlot}(hf:∀{s},M.slotOk s=true->M.slotOk (f s)=true){ps:List DSlot}(h:ps.all M.slotOk=true):(ps.map f).all M.slotOk=true:=by rw[List.all_eq_true]at*;intro s hs;obtain⟨t,ht,rfl⟩:=List.mem_map.1 hs;exact hf (h t ht)
theorem rV{h:DHost}{g:Int}{x:DGuest}(l:Live h g x):M.hostView h g=(⟨x.C,M.mem h.Words x.Pages,x.In,x.Out⟩,true):=by unfold M.hostView;rw[lD.2 ⟨l.ok,l.lo,l.hi,by rw[l.at_];exact l.live⟩,cTq,l.at_]
section
variable {h : DHost} {g : Int} {x : DGuest}
theorem bAv{gs:List DGuest}(hn:M.gone gs≠-1):∃a:Nat,a<3/\M.gone gs=(a:Int)/\(gs.getD a default).Live=false:=by unfold M.gone at hn ⊢;(cases h0:(gs.getD 0 default).Live with|false=>exact⟨0,by omega,rfl,h0⟩|true=>(cases h1:(gs.getD 1 default).Live with|false=>exact⟨1,by omega,rfl,h1⟩|true=>(cases h2:(gs.getD 2 default).Live with|false=>exact⟨2,by omega,rfl,h2⟩|true=>rw[h0,h1,h2]at hn;exact absurd rfl hn)))
structure Cln (h : DHost) (g : Int) (x : DGuest) (a : Nat) : Prop where
 live:Live h g x
 lt:a<3
 ne:g.toNat≠a
 none:h.Guests.getD a default=M.noGuest
theorem aFx:(M.hostClone h g=(⟨[],[]⟩,-1,false))\/((SmallH h)->∃x a,Cln h g x a/\M.hostClone h g=(⟨h.Words,M.cloned h.Guests g.toNat a⟩,(a:Int),true)):=by unfold M.hostClone;(cases ht:M.there h g with|false=>exact .inl rfl|true=>by_cases hn:M.gone h.Guests=-1;{left;rw[dF (by simp[hn])];rfl};{right;intro hs;obtain⟨a,a3,ea,hd⟩:=bAv hn;have l:=cC hs ht;have h3:=l.ok.three;refine⟨_,a,⟨l,a3,?_,?_⟩,?_⟩;{intro e;have:=l.live;rw[e,hd]at this;cases this};{exact aXe hd (aBk l.ok.all (by omega))};{rw[dT hn,ea,iT];rfl}})
variable {a : Nat}
theorem Cln.at_g(c:Cln h g x a):(M.cloned h.Guests g.toNat a).getD g.toNat default=M.mapG M.keep x:=by have h3:=c.live.ok.three;have:=c.live.lo;have:=c.live.hi;unfold M.cloned;rw[rW (by rw[lS];omega) (λe=>c.ne e.symm),nS (by omega),c.live.at_]
theorem Cln.at_a(c:Cln h g x a):(M.cloned h.Guests g.toNat a).getD a default=M.mapG M.fresh x:=by have h3:=c.live.ok.three;have:=c.lt;unfold M.cloned;rw[nS (by rw[lS];omega),c.live.at_]
theorem Cln.at_k(c:Cln h g x a){k:Nat}(h3k:k<3)(hg:k≠g.toNat)(ha:k≠a):(M.cloned h.Guests g.toNat a).getD k default=h.Guests.getD k default:=by have h3:=c.live.ok.three;unfold M.cloned;rw[rW (by rw[lS];omega) (λe=>ha e.symm),rW (by omega) (λe=>hg e.symm)]
theorem Cln.many(c:Cln h g x a){f:Int}:M.many (M.slots (M.cloned h.Guests g.toNat a)) f=M.many (M.slots h.Guests) f+M.many x.Pages f:=by have h3:=c.live.ok.three;have:=c.live.lo;have:=c.live.hi;have:=c.lt;have e1:=qP (y:=M.mapG M.keep (h.Guests.getD g.toNat default)) (f:=f) (gs:=h.Guests) (i:=g.toNat) (by omega);have e2:=qP (y:=M.mapG M.fresh (h.Guests.getD g.toNat default)) (f:=f) (gs:=h.Guests.set g.toNat (M.mapG M.keep (h.Guests.getD g.toNat default))) (i:=a) (by rw[lS];omega);rw[rW (by omega) c.ne,c.none]at e2;rw[c.live.at_]at e1 e2;have k1:M.many (M.mapG M.keep x).Pages f=M.many x.Pages f:=aMi;have k2:M.many (M.mapG M.fresh x).Pages f=M.many x.Pages f:=aJx;have k0:M.many M.noGuest.Pages f=0:=rfl;unfold M.cloned;rw[c.live.at_];omega
theorem Cln.hostOk(c:Cln h g x a):M.hostOk ⟨h.Words,M.cloned h.Guests g.toNat a⟩=true:=by
 have k:=c.live.ok;have h3:=k.three;have:=c.live.lo;have:=c.live.hi;have:=c.lt;have hlen:(M.cloned h.Guests g.toNat a).length=3:=(by unfold M.cloned;rw[lS,lS,h3]);rw[cK];have okx:∀f:DSlot->DSlot,(∀{s},M.slotOk s=true->M.slotOk (f s)=true)->M.guestOk (M.mapG f x)=true:=λf hf=>(aAc (x:=M.mapG f x) c.live.live).2 ⟨c.live.core,by show(x.Pages.map f).length=8;rw[List.length_map];exact c.live.pages,bAb hf c.live.slots,c.live.inn,c.live.out⟩;refine⟨k.len,k.words,hlen,?_,?_⟩;{show(M.cloned h.Guests g.toNat a).all M.guestOk=true;unfold M.cloned;rw[c.live.at_];exact aLm (aLm k.all (okx _ aVn)) (okx _ bDa)}
 · show M.alone (M.slots (M.cloned h.Guests g.toNat a))=true
   rw[xM];intro i hi s hs hw;rw[hlen]at hi;by_cases eg:i=g.toNat
   {rw[eg,c.at_g]at hs;obtain⟨t,_,rfl⟩:=List.mem_map.1 (show s∈x.Pages.map M.keep from hs);cases hw};{by_cases ea:i=a;{rw[ea,c.at_a]at hs;obtain⟨t,_,rfl⟩:=List.mem_map.1 (show s∈x.Pages.map M.fresh from hs);cases hw};{rw[c.at_k hi eg ea]at hs;have h1:=xM.1 k.alone i (by omega) s hs hw;have h2:=bCf (gs:=h.Guests) (f:=s.Frame) (i:=i) (j:=g.toNat) (by omega) (by omega) eg;have hp:0<M.many (h.Guests.getD i default).Pages s.Frame:=bEh.2 ⟨s,hs,rfl⟩;rw[c.live.at_]at h2;rw[c.many];omega}}
theorem Cln.small(c:Cln h g x a)(hs:SmallH h):SmallH ⟨h.Words,M.cloned h.Guests g.toNat a⟩:=by have h3:=c.live.ok.three;have sm:∀f:DSlot->DSlot,SmallG (M.mapG f x):=λf=>⟨c.live.small.c,by show(x.Pages.map f).length<=_;rw[List.length_map];exact c.live.small.pages,c.live.small.i,c.live.small.o⟩;refine⟨hs.words,by unfold M.cloned;rw[lS,lS];exact hs.guests,λy hy=>?_⟩;have hy:y∈M.cloned h.Guests g.toNat a:=hy;unfold M.cloned at hy;rw[c.live.at_]at hy;rcases List.mem_or_eq_of_mem_set hy with hy|rfl;{rcases List.mem_or_eq_of_mem_set hy with hy|rfl;{exact hs.all y hy};{exact sm _}};{exact sm _}
theorem mem_map{ws:List Int}{f:DSlot->DSlot}(hf:∀s,(f s).Frame=s.Frame){ps:List DSlot}(hl:ps.length=8):M.mem ws (ps.map f)=M.mem ws ps:=by refine aBq jR jR λb hb=>?_;rw[qF hb,qF hb];unfold M.word;rw[bCw (by omega),hf]
theorem Cln.live_g(c:Cln h g x a)(hs:SmallH h):Live ⟨h.Words,M.cloned h.Guests g.toNat a⟩ g (M.mapG M.keep x):=by have:=cC (c.small hs) (lD.2 ⟨cK.1 c.hostOk,c.live.lo,c.live.hi,by show((M.cloned h.Guests g.toNat a).getD g.toNat default).Live=true;rw[c.at_g];exact c.live.live⟩);rwa[show((⟨h.Words,M.cloned h.Guests g.toNat a⟩:DHost).Guests.getD g.toNat default)=M.mapG M.keep x from c.at_g]at this
theorem Cln.live_a(c:Cln h g x a)(hs:SmallH h):Live ⟨h.Words,M.cloned h.Guests g.toNat a⟩ (a:Int) (M.mapG M.fresh x):=by have:=cC (g:=(a:Int)) (c.small hs) (lD.2 ⟨cK.1 c.hostOk,by omega,by have:=c.lt;omega,by show((M.cloned h.Guests g.toNat a).getD (a:Int).toNat default).Live=true;rw[iT,c.at_a];exact c.live.live⟩);rwa[show((⟨h.Words,M.cloned h.Guests g.toNat a⟩:DHost).Guests.getD (a:Int).toNat default)=M.mapG M.fresh x from by rw[iT];exact c.at_a]at this
theorem Cln.view_a(c:Cln h g x a)(hs:SmallH h):M.hostView ⟨h.Words,M.cloned h.Guests g.toNat a⟩ (a:Int)=M.hostView h g:=by rw[rV (c.live_a hs),rV c.live];show((⟨x.C,M.mem h.Words (x.Pages.map M.fresh),x.In,x.Out⟩:DBare),true)=_;rw[mem_map (f:=M.fresh) (λ_=>rfl) c.live.pages]
theorem Cln.view_g(c:Cln h g x a)(hs:SmallH h):M.hostView ⟨h.Words,M.cloned h.Guests g.toNat a⟩ g=M.hostView h g:=by rw[rV (c.live_g hs),rV c.live];show((⟨x.C,M.mem h.Words (x.Pages.map M.keep),x.In,x.Out⟩:DBare),true)=_;rw[mem_map (f:=M.keep) (λ_=>rfl) c.live.pages]
theorem Cln.view_k(c:Cln h g x a)(hs:SmallH h){k:Nat}(h3:k<3)(ha:k≠a):M.hostView ⟨h.Words,M.cloned h.Guests g.toNat a⟩ (k:Int)=M.hostView h (k:Int):=by
 by_cases eg:k=g.toNat
 {have:(k:Int)=g:=(by have:=c.live.lo;omega);rw[this];exact c.view_g hs};{have hk:=c.at_k h3 eg ha;unfold M.hostView M.there;rw[c.hostOk,cK.2 c.live.ok,iT];show(bif (_&&((M.cloned h.Guests g.toNat a).getD k default).Live)then((⟨((M.cloned h.Guests g.toNat a).getD k default).C,M.mem h.Words ((M.cloned h.Guests g.toNat a).getD k default).Pages,((M.cloned h.Guests g.toNat a).getD k default).In,((M.cloned h.Guests g.toNat a).getD k default).Out⟩:DBare),true)else _)=_;rw[hk];rfl}
theorem Cln.free(c:Cln h g x a):M.hostFree ⟨h.Words,M.cloned h.Guests g.toNat a⟩=M.hostFree h:=by have h3:=c.live.ok.three;have:=c.live.lo;have:=c.live.hi;unfold M.hostFree;rw[c.hostOk,cK.2 c.live.ok,cTq,cTq,lL,lL];congr 1;refine List.filter_congr λf _=>?_;rw[decide_eq_decide];show M.many (M.slots (M.cloned h.Guests g.toNat a)) (f:Int)=0↔_;have:=aPr (gs:=h.Guests) (i:=g.toNat) (f:=(f:Int)) (by omega);rw[c.live.at_]at this;rw[c.many];omega
end
theorem aSs{h:DHost}{g:Int}(hs:SmallH h):SmallH (M.hostClone h g).1:=by rcases aFx (h:=h) (g:=g)with e|e;{rw[e];exact⟨by simp,by simp,by simp⟩};{obtain⟨x,a,c,e⟩:=e hs;rw[e];exact c.small hs}
section
variable {h : DHost} {g : Int} {x : DGuest}
theorem give_len:∀{qs:List Int} {ps:List DSlot},(M.give ps qs).length=ps.length
 |[],_=>rfl
 |q::qs,ps=>by show(M.give (ps.set q.toNat M.nowhere) qs).length=_;rw[give_len,lS]
theorem aRv:∀{qs:List Int} {ps:List DSlot} {j:Nat},j<ps.length->qs.all (M.inR 0 7)=true->(M.give ps qs).getD j default=if(j:Int)∈qs then M.nowhere else ps.getD j default
 |[],ps,j,_,_=>by rw[if_neg (by simp)];rfl
 |q::qs,ps,j,hj,hq=>by rw[List.all_cons,bA]at hq;have hr:=M.inR_iff.1 hq.1;show(M.give (ps.set q.toNat M.nowhere) qs).getD j default=_;rw[aRv (by rw[lS];exact hj) hq.2];by_cases e:(j:Int)∈qs;{rw[if_pos e,if_pos (List.mem_cons_of_mem _ e)]};{rw[if_neg e];by_cases e2:(j:Int)=q;{rw[if_pos (by rw[e2];exact List.mem_cons_self ..),show j=q.toNat by omega,bB (by rw[lS];omega),List.getElem_set_self]};{rw[if_neg (by rw[List.mem_cons];exact λc=>c.elim e2 e),bB (by rw[lS];exact hj),List.getElem_set_ne (by omega),<-bB]}}
theorem aLy{f:Int}(hf:f≠-1):∀{qs:List Int} {ps:List DSlot},M.many (M.give ps qs) f<=M.many ps f
 |[],_=>Nat.le_refl _
 |q::qs,ps=>by
  show M.many (M.give (ps.set q.toNat M.nowhere) qs) f<=_;refine Nat.le_trans (aLy hf) ?_;by_cases hq:q.toNat<ps.length
  · have:∀{ps:List DSlot} {j:Nat},M.many (ps.set j M.nowhere) f<=M.many ps f:=by
     intro ps;induction ps with
     |nil=>intro j;simp
     |cons s ps ih=>intro j;(cases j with|zero=>rw[List.set_cons_zero,gU,gU,if_neg (show M.nowhere.Frame≠f from λe=>hf e.symm)];omega|succ j=>rw[List.set_cons_succ,gU,gU];have:=ih (j:=j);omega)
    exact this
  {rw[List.set_eq_of_length_le (by omega)];exact Nat.le_refl _}
theorem aUt:∀{qs:List Int} {ps:List DSlot},ps.all M.slotOk=true->(M.give ps qs).all M.slotOk=true
 |[],_,h=>h
 |q::qs,ps,h=>by refine aUt (ps:=ps.set q.toNat M.nowhere) (qs:=qs) ?_;rw[List.all_eq_true]at*;intro s hs;rcases List.mem_or_eq_of_mem_set hs with hs|rfl;{exact h s hs};{rfl}
theorem aJv:∀{qs:List Int} {ps:List DSlot} {s:DSlot},s∈M.give ps qs->s.Write=true->s∈ps
 |[],_,_,h,_=>h
 |q::qs,ps,s,h,hw=>by have:=aJv (qs:=qs) (ps:=ps.set q.toNat M.nowhere) h hw;rcases List.mem_or_eq_of_mem_set this with h|rfl;{exact h};{cases hw}
theorem aJy(l:Live h g x){qs:List Int}{f:Int}(hf:f≠-1):M.many (M.slots (h.Guests.set g.toNat (M.giveG x qs))) f<=M.many (M.slots h.Guests) f:=by have h3:=l.ok.three;have:=l.lo;have:=l.hi;have e1:=qP (y:=M.giveG x qs) (f:=f) (gs:=h.Guests) (i:=g.toNat) (by omega);rw[l.at_]at e1;have:M.many (M.giveG x qs).Pages f<=M.many x.Pages f:=aLy hf;omega
theorem sL(l:Live h g x){qs:List Int}:M.hostOk ⟨h.Words,h.Guests.set g.toNat (M.giveG x qs)⟩=true:=by
 have k:=l.ok;have h3:=k.three;have:=l.lo;have:=l.hi;rw[cK];refine⟨k.len,k.words,by rw[lS];exact h3,aLm k.all ((aAc (x:=M.giveG x qs) l.live).2 ⟨l.core,give_len.trans l.pages,aUt l.slots,l.inn,l.out⟩),?_⟩;rw[xM];intro i hi s hs hw;rw[lS]at hi
 have old:s∈(h.Guests.getD i default).Pages:=by
  by_cases eg:i=g.toNat
  {rw[eg,nS (by omega)]at hs;rw[eg,l.at_];exact aJv hs hw};{rwa[rW (by omega) (λe=>eg e.symm)]at hs}
 have ok:=List.all_eq_true.1 (fY (aBk k.all (by omega:i<h.Guests.length))).1 s old;have hf:s.Frame≠-1:=λe=>by unfold M.slotOk at ok;rw[dT e,cTq,hw]at ok;cases ok
 have h1:=xM.1 k.alone i (by omega) s old hw;have h2:=aJy l (qs:=qs) hf;show M.many (M.slots (h.Guests.set g.toNat (M.giveG x qs))) s.Frame<=1;omega
theorem aAw(hs:SmallH h)(l:Live h g x){qs:List Int}:SmallH ⟨h.Words,h.Guests.set g.toNat (M.giveG x qs)⟩:=by refine⟨hs.words,by rw[lS];exact hs.guests,λy hy=>?_⟩;rcases List.mem_or_eq_of_mem_set hy with hy|rfl;{exact hs.all y hy};{exact⟨l.small.c,by show(M.give x.Pages qs).length<=_;rw[give_len];exact l.small.pages,l.small.i,l.small.o⟩}
theorem aZj(hs:SmallH h)(l:Live h g x){qs:List Int}:Live ⟨h.Words,h.Guests.set g.toNat (M.giveG x qs)⟩ g (M.giveG x qs):=by have h3:=l.ok.three;have:=l.lo;have:=l.hi;have e:((⟨h.Words,h.Guests.set g.toNat (M.giveG x qs)⟩:DHost).Guests.getD g.toNat default)=M.giveG x qs:=nS (by omega);have:=cC (aAw hs l (qs:=qs)) (lD.2 ⟨cK.1 (sL l),l.lo,l.hi,by rw[e];exact l.live⟩);rwa[e]at this
theorem bEa(l:Live h g x){qs:List Int}(hq:qs.all (M.inR 0 7)=true){b:Nat}(hb:b<64):(M.mem h.Words (M.giveG x qs).Pages).getD b default=if((b/8:Nat):Int)∈qs then 0 else(M.mem h.Words x.Pages).getD b default:=by have hp:=l.pages;rw[qF hb,qF hb];unfold M.word;show(if((M.give x.Pages qs).getD (b/8) default).Frame<0 then(0:Int)else h.Words.getD (((M.give x.Pages qs).getD (b/8) default).Frame.toNat*8+b%8) default)=_;rw[aRv (by omega) hq];by_cases e:((b/8:Nat):Int)∈qs;{rw[if_pos e,if_pos e,if_pos (by show(-1:Int)<0;omega)]};{rw[if_neg e,if_neg e]}
theorem aZi(l:Live h g x){qs:List Int}{k:Nat}(h3k:k<3)(hn:(k:Int)≠g):M.hostView ⟨h.Words,h.Guests.set g.toNat (M.giveG x qs)⟩ (k:Int)=M.hostView h (k:Int):=by have h3:=l.ok.three;have:=l.lo;have:=l.hi;have hk:(h.Guests.set g.toNat (M.giveG x qs)).getD k default=h.Guests.getD k default:=rW (by omega) (by omega);unfold M.hostView M.there;rw[sL l,cK.2 l.ok,iT];simp only[hk]
theorem aZc(l:Live h g x){qs:List Int}:(M.hostFree h).length<=(M.hostFree ⟨h.Words,h.Guests.set g.toNat (M.giveG x qs)⟩).length:=by have e1:M.hostFree h=M.free (M.slots h.Guests):=(by unfold M.hostFree;rw[cK.2 l.ok];rfl);have e2:M.hostFree ⟨h.Words,h.Guests.set g.toNat (M.giveG x qs)⟩=M.free (M.slots (h.Guests.set g.toNat (M.giveG x qs))):=(by unfold M.hostFree;rw[sL l];rfl);rw[e1,e2];refine bCv λf hf hm=>?_;have:=aJy l (qs:=qs) (f:=(f:Int)) (by omega);omega
end
theorem aLh{h:DHost}{g:Int}{qs:List Int}(hs:SmallH h):SmallH (M.hostGive h g qs).1:=by unfold M.hostGive;(cases hc:(M.there h g&&qs.all (M.inR 0 7))with|false=>exact⟨by simp,by simp,by simp⟩|true=>rw[bA]at hc;exact aAw hs (cC hs hc.1))
theorem aBu{h:DHost}(hs:SmallH h)(hk:HOk h):iC h=some h:=by unfold iC;rw[kG hs.words,xB hs.guests hs.all hk.all];rfl
namespace M
def clean(s:DSlot):DSlot:=⟨s.Frame,s.Write,false⟩
end M
theorem aJn{ps:List DSlot}:(ps.map M.keep).map M.clean=ps.map M.fresh:=by rw[List.map_map];rfl
theorem aRf{ps:List DSlot}(h:ps.length<=1048576):iG ps=some (ps.map M.keep):=by
 unfold iG;rw[oE h,oB]
 have key:=cN (n:=ps.length) (step:=eX ps) (λk=>(up M.keep k ps,(k:Int))) (λ_=>true) (JO.go (ps.map M.keep)) (JO.go (ps.map M.keep)) (λk hk _=>by
  have hl:=zN (f:=M.keep) (k:=k) (xs:=ps);have hp:=aEi (f:=M.keep) hk;simp only[eX,iT];rw[dT (p:=(k:Int)<_) (by omega),cTq,aE ⟨by omega,by omega⟩,aD (by omega) (by omega),aJg hk,cTq,<-hp];rfl) (λ_=>by
  simp only[eX];rw[dF (by omega),cFq,aCk (Nat.le_refl _)])
 rw[Bool.cond_self]at key;have e:up M.keep 0 ps=ps:=zL;rw[e]at key;show Option.bind (Option.bind (iter (eX ps) (ps,((0:Nat):Int))) LO.val) _=_;rw[key];rfl
theorem aXn{ps:List DSlot}(h:ps.length<=1048576):mM ps=some (ps.map M.clean):=by
 unfold mM;rw[oE h,oB]
 have key:=cN (n:=ps.length) (step:=gN ps) (λk=>(up M.clean k ps,(k:Int))) (λ_=>true) (JO.go (ps.map M.clean)) (JO.go (ps.map M.clean)) (λk hk _=>by
  have hl:=zN (f:=M.clean) (k:=k) (xs:=ps);have hp:=aEi (f:=M.clean) hk;simp only[gN,iT];rw[dT (p:=(k:Int)<_) (by omega),cTq,aE ⟨by omega,by omega⟩,aD (by omega) (by omega),aJg hk,cTq,<-hp];rfl) (λ_=>by
  simp only[gN];rw[dF (by omega),cFq,aCk (Nat.le_refl _)])
 rw[Bool.cond_self]at key;have e:up M.clean 0 ps=ps:=zL;rw[e]at key;show Option.bind (Option.bind (iter (gN ps) (ps,((0:Nat):Int))) LO.val) _=_;rw[key];rfl
theorem aZx{gs:List DGuest}{a:Nat}{x:DGuest}{ps:List DSlot}(ha:a<gs.length):(gs.set a x).set a ⟨((gs.set a x).getD a default).Live,((gs.set a x).getD a default).C,ps,((gs.set a x).getD a default).In,((gs.set a x).getD a default).Out⟩=gs.set a ⟨x.Live,x.C,ps,x.In,x.Out⟩:=by rw[nS ha,List.set_set]
theorem aSx{h:DHost}{g:Int}(hs:SmallH h):lP h g=some (M.hostClone h g):=by unfold lP M.hostClone;rw[vB hs,oB];(cases ht:M.there h g with|false=>rfl|true=>have l:=cC hs ht;have hk:=l.ok;have h3:=hk.three;have:=l.lo;have:=l.hi;have hr:=zV h.Guests;have hp:=l.pages;rw[bT,cFq,aSn h3,oB,Bool.true_and];by_cases e:M.gone h.Guests=-1;{rw[dT e,dF (by simp[e])];rfl};{have gk:=aBk hk.all (i:=g.toNat) (by omega);rw[dF e,dT e,cFq,cTq,aBu hs hk,oB,aE ⟨by omega,by omega⟩,aRf (by omega),oB,aE ⟨by omega,by omega⟩,aE ⟨by omega,by omega⟩];show Option.bind (dP (h.Guests.getD g.toNat default)) _=_;rw[yS l.small gk,oB,aE ⟨by omega,by omega⟩,aE ⟨by omega,by omega⟩,oB,aXn (by rw[List.length_map];omega),oB,aE ⟨by omega,by omega⟩,aJn];exact congrArg (λl=>some ((⟨h.Words,l⟩:DHost),M.gone h.Guests,true)) (aZx (gs:=h.Guests.set g.toNat (M.mapG M.keep (h.Guests.getD g.toNat default))) (x:=h.Guests.getD g.toNat default) (by rw[lS];omega))})
theorem bFi{h:DHost}(hk:HOk h):iter (eD h) (-1,2)=some (.ret (.go (M.gone h.Guests))):=by
 have h3:=hk.three
 have st:∀(i:Nat) (a:Int),i<3->eD h (a,(i:Int))=some (.next (bif (h.Guests.getD i default).Live then a else(i:Int),(i:Int)-1)):=λi a hi=>by
  simp only[eD,iT];rw[dT (p:=(0:Int)<=(i:Int)) (by omega),cTq,aE ⟨by omega,by omega⟩];cases(h.Guests.getD i default).Live
  all_goals
   simp only[bT,bF,cTq,cFq,oB,JO.run,rN];rw[aD (by omega) (by omega)]
 have sn:∀a:Int,eD h (a,-1)=some (.ret (.go a)):=λa=>by simp only[eD];rfl
 rw[show(2:Int)=((2:Nat):Int)from rfl,cU,st 2 _ (by omega)];simp only;rw[show((2:Nat):Int)-1=((1:Nat):Int)from rfl,cU,st 1 _ (by omega)];simp only;rw[show((1:Nat):Int)-1=((0:Nat):Int)from rfl,cU,st 0 _ (by omega)];simp only;rw[show((0:Nat):Int)-1=-1 from rfl,cU,sn];unfold M.gone;cases(h.Guests.getD 0 default).Live<;>cases(h.Guests.getD 1 default).Live<;>cases(h.Guests.getD 2 default).Live<;>rfl
section
variable {h : DHost} {g : Int} {x : DGuest}
theorem bIk(l:Live h g x):iter (fI g) (h.Guests,0)=some (.ret (.go (h.Guests.set g.toNat (M.mapG M.keep x)))):=by
 have h3:=l.ok.three;have:=l.lo;have:=l.hi;have hp:=l.pages
 have key:=cN (n:=8) (step:=fI g) (λk=>(h.Guests.set g.toNat (M.upG M.keep k x),(k:Int))) (λ_=>true) (JO.go (h.Guests.set g.toNat (M.mapG M.keep x))) (JO.go (h.Guests.set g.toNat (M.mapG M.keep x))) (λk hk _=>by
  have hl:=zN (f:=M.keep) (k:=k) (xs:=x.Pages);have hpl:(M.upG M.keep k x).Pages.length=8:=(by show(up M.keep k x.Pages).length=8;omega);have hs:=aEi (f:=M.keep) (k:=k) (xs:=x.Pages) (by omega);have ha:=aJg (f:=M.keep) (k:=k) (xs:=x.Pages) (by omega);have e1:(h.Guests.set g.toNat (M.upG M.keep k x)).getD g.toNat default=M.upG M.keep k x:=nS (by omega);simp only[fI,iT,e1];rw[dT (p:=(k:Int)<8) (by omega),cTq,aE ⟨by omega,by rw[lS];omega⟩,aE ⟨by omega,by omega⟩,aD (by omega) (by omega),cTq,List.set_set];show some (LO.next (h.Guests.set g.toNat (⟨x.Live,x.C,(up M.keep k x.Pages).set k ⟨((up M.keep k x.Pages).getD k default).Frame,false,((up M.keep k x.Pages).getD k default).Dirty⟩,x.In,x.Out⟩:DGuest),(k:Int)+1))=some (LO.next (h.Guests.set g.toNat (⟨x.Live,x.C,up M.keep (k+1) x.Pages,x.In,x.Out⟩:DGuest),((k+1:Nat):Int)));rw[ha,<-hs];rfl) (λ_=>by
  simp only[fI];rw[bHf (by omega)];rfl)
 rw[Bool.cond_self]at key;have e0:h.Guests.set g.toNat (M.upG M.keep 0 x)=h.Guests:=(by rw[bDl,<-l.at_];exact pN);rw[e0]at key;exact key
theorem bGq{ps:List DSlot}(hp:ps.length=8):iter eC (ps,0)=some (.ret (.go (ps.map M.clean))):=by
 have key:=cN (n:=8) (step:=eC) (λk=>(up M.clean k ps,(k:Int))) (λ_=>true) (JO.go (ps.map M.clean)) (JO.go (ps.map M.clean)) (λk hk _=>by
  have hl:=zN (f:=M.clean) (k:=k) (xs:=ps);have hs:=aEi (f:=M.clean) (k:=k) (xs:=ps) (by omega);simp only[eC,iT];rw[dT (p:=(k:Int)<8) (by omega),cTq,aE ⟨by omega,by omega⟩,aD (by omega) (by omega),aJg (by omega),cTq,<-hs];rfl) (λ_=>by
  simp only[eC];rw[aCk (by omega)];rfl)
 rw[Bool.cond_self]at key;have e:up M.clean 0 ps=ps:=zL;rw[e]at key;exact key
end
theorem aSt{h:DHost}{g:Int}(hs:SmallH h):lH h g=some (M.hostClone h g):=by unfold lH M.hostClone;rw[aEa hs,oB];(cases ht:M.there h g with|false=>rfl|true=>have l:=cC hs ht;have hk:=l.ok;have h3:=hk.three;have:=l.lo;have:=l.hi;have hr:=zV h.Guests;have hp:=l.pages;rw[bT,cFq,bFi hk,Bool.true_and];simp only[oB,LO.val,JO.run,rT];by_cases e:M.gone h.Guests=-1;{rw[dT (p:=M.gone h.Guests<0) (by omega),dF (by simp[e])];rfl};{have gk:=aBk hk.all (i:=g.toNat) (by omega);have gk2:M.guestOk (M.mapG M.keep (h.Guests.getD g.toNat default))=true:=(aAc (x:=M.mapG M.keep _) l.live).2 ⟨l.core,by show(List.map _ _).length=8;rw[List.length_map];exact hp,bAb aVn l.slots,l.inn,l.out⟩;have sg:SmallG (M.mapG M.keep (h.Guests.getD g.toNat default)):=⟨l.small.c,by show(List.map _ _).length<=_;rw[List.length_map];exact l.small.pages,l.small.i,l.small.o⟩;rw[dF (p:=M.gone h.Guests<0) (by omega),dT e,cFq,cTq,aKh hs hk.all,oB,bIk l];simp only[oB,LO.val,JO.run,rP];rw[aE ⟨by omega,by rw[lS];omega⟩];have e1:(h.Guests.set g.toNat (M.mapG M.keep (h.Guests.getD g.toNat default))).getD g.toNat default=M.mapG M.keep (h.Guests.getD g.toNat default):=nS (by omega);simp only[e1];show Option.bind (fS (M.mapG M.keep (h.Guests.getD g.toNat default))) _=_;rw[aVf sg gk2,oB];show Option.bind (Option.bind (iter eC ((h.Guests.getD g.toNat default).Pages.map M.keep,0)) LO.val) _=_;rw[bGq (by rw[List.length_map];exact hp),aJn];simp only[oB,LO.val,JO.run,rR];rw[aE ⟨by omega,by rw[lS];omega⟩];rfl})
theorem aRn{T:Type}{xs ys:List T}{o k:Nat}(h:ys.length=8)(hk:8<=k):over xs o k ys=over xs o 8 ys:=by simp only[over,h];rw[Nat.min_eq_right hk,Nat.min_self]
theorem aQb{T:Type}[Inhabited T]{xs:List T}{u:Nat}:(xs.drop u).getD 0 default=xs.getD u default:=by simp[List.getD]
theorem aNa{T:Type}{xs:List T}{u n:Nat}(h:n=(xs.drop u).length):List.take (Int.toNat (n:Int)-Int.toNat 1) (List.drop (Int.toNat 1) (xs.drop u))=xs.drop (u+1):=by rw[show Int.toNat 1=1 from rfl,List.drop_drop,iT];apply List.take_of_length_le;rw[h];simp;omega
theorem xK{mem:List Int}{p:Nat}(h:p<8):List.take (Int.toNat (w64 ((w64 ((p:Int)+1))*8))-Int.toNat (w64 ((p:Int)*8))) (List.drop (Int.toNat (w64 ((p:Int)*8))) mem)=M.page mem p:=by rw[aD (z:=(p:Int)+1) (by omega) (by omega),aD (z:=((p:Int)+1)*8) (by omega) (by omega),aD (z:=(p:Int)*8) (by omega) (by omega)];rw[show Int.toNat (((p:Int)+1)*8)-Int.toNat ((p:Int)*8)=8 by omega,show Int.toNat ((p:Int)*8)=p*8 by omega];rfl
theorem bIc{h:DHost}(hk:HOk h):iter (eG h) (-1,2)=some (.ret (.go (M.gone h.Guests))):=by
 have h3:=hk.three
 have st:∀(i:Nat) (a:Int),i<3->eG h (a,(i:Int))=some (.next (bif (h.Guests.getD i default).Live then a else(i:Int),(i:Int)-1)):=λi a hi=>by
  simp only[eG,iT];rw[dT (p:=(0:Int)<=(i:Int)) (by omega),cTq,aE ⟨by omega,by omega⟩];cases(h.Guests.getD i default).Live
  all_goals
   simp only[bT,bF,cTq,cFq,oB,JO.run,rQ];rw[aD (by omega) (by omega)]
 have sn:∀a:Int,eG h (a,-1)=some (.ret (.go a)):=λa=>by simp only[eG];rfl
 rw[show(2:Int)=((2:Nat):Int)from rfl,cU,st 2 _ (by omega)];simp only;rw[show((2:Nat):Int)-1=((1:Nat):Int)from rfl,cU,st 1 _ (by omega)];simp only;rw[show((1:Nat):Int)-1=((0:Nat):Int)from rfl,cU,st 0 _ (by omega)];simp only;rw[show((0:Nat):Int)-1=-1 from rfl,cU,sn];unfold M.gone;cases(h.Guests.getD 0 default).Live<;>cases(h.Guests.getD 1 default).Live<;>cases(h.Guests.getD 2 default).Live<;>rfl
theorem bBa{b:DBare}{s:List Int×List Int×List DSlot×Int}{p:Nat}(hp:p<8)(hs:s.2.2.2=(p:Int))(hm:b.Mem.length=64):iter (fH b s) (true,0)=some (.ret (.go (M.zeros (M.page b.Mem p)))):=by
 have hl:=xG (xs:=b.Mem) (p:=p) (by omega)
 have key:=cN (n:=8) (step:=fH b s) (λk=>((List.range k).all λj=>decide ((M.page b.Mem p).getD j default=0),(k:Int))) (λ_=>true) (JO.go (M.zeros (M.page b.Mem p))) (.go true) (λk hk _=>by
  simp only[fH,hs,xK hp,iT];rw[dT (p:=(k:Int)<8) (by omega),cTq];have er:((List.range (k+1)).all λj=>decide ((M.page b.Mem p).getD j default=0))=(((List.range k).all λj=>decide ((M.page b.Mem p).getD j default=0))&&decide ((M.page b.Mem p).getD k default=0)):=(by rw[List.range_succ,List.all_append];simp);rw[er];cases((List.range k).all λj=>decide ((M.page b.Mem p).getD j default=0))with
  |true=>rw[cTq,aE ⟨by omega,by omega⟩];simp only[oB,JO.run,mH,Bool.true_and,cTq];rw[aD (by omega) (by omega)];rfl
  |false=>simp only[cFq,oB,JO.run,mH,Bool.false_and,cTq];rw[aD (by omega) (by omega)];rfl) (λ_=>by
  simp only[fH];rfl)
 rw[show(List.range 8).all (λ_=>true)=true by simp,cTq]at key;exact key
theorem aYp{b:DBare}{ws:List Int}{ss:List DSlot}{g:Int}(hg:0<=g)(hw:ws.length=160)(hm:b.Mem.length=64):
 iter (eO b g) (ws,M.free ss,[],0)=some (.ret (bif decide (M.used b.Mem 8<=(M.free ss).length)then .go (M.wordsFor b.Mem (M.free ss) ws 8,M.slotsFor b.Mem (M.free ss) 8)else .out (⟨[],[]⟩,-1,false))):=by
 have hfl:=zO (ss:=ss)
 have key:=cN (n:=8) (step:=eO b g) (λp=>(M.wordsFor b.Mem (M.free ss) ws p,(M.free ss).drop (M.used b.Mem p),M.slotsFor b.Mem (M.free ss) p,(p:Int))) (λp=>M.zeros (M.page b.Mem p)||decide (M.used b.Mem p<(M.free ss).length))
  (JO.go (M.wordsFor b.Mem (M.free ss) ws 8,M.slotsFor b.Mem (M.free ss) 8)) (.out (⟨[],[]⟩,-1,false)) (λp hp ho=>by
  have hu:M.used b.Mem p<=(M.free ss).length:=(by have:((List.range p).all λp=>M.zeros (M.page b.Mem p)||decide (M.used b.Mem p<(M.free ss).length))=true:=(by simp only[List.all_eq_true,List.mem_range];exact ho);rw[oL,decide_eq_true_eq]at this;exact this);have hlen:=gK (mem:=b.Mem) (ss:=ss) hw (p:=p) (by omega) hu;have hpl:=xG (xs:=b.Mem) (p:=p) (by omega);have hsl:(M.slotsFor b.Mem (M.free ss) p).length=p:=(by simp[M.slotsFor]);have es:M.slotsFor b.Mem (M.free ss) (p+1)=M.slotsFor b.Mem (M.free ss) p++[M.slotFor b.Mem (M.free ss) p]:=(by simp[M.slotsFor,List.range_succ]);have ew:M.wordsFor b.Mem (M.free ss) ws (p+1)=(bif M.zeros (M.page b.Mem p)then M.wordsFor b.Mem (M.free ss) ws p else over (M.wordsFor b.Mem (M.free ss) ws p) (((M.free ss).getD (M.used b.Mem p) default).toNat*8) 8 (M.page b.Mem p)):=rfl;have eu:M.used b.Mem (p+1)=M.used b.Mem p+(bif M.zeros (M.page b.Mem p)then 0 else 1):=rfl;have b1:w64 ((p:Int)*8)=(p:Int)*8:=aD (by omega) (by omega);have b2:w64 ((w64 ((p:Int)+1))*8)=((p:Int)+1)*8:=(by rw[aD (z:=(p:Int)+1) (by omega) (by omega),aD (by omega) (by omega)]);simp only[eO];rw[dT (p:=(p:Int)<8) (by omega),cTq,dT hg,cTq,aE ⟨by omega,by omega,by omega⟩,bBa hp rfl hm];simp only[oB,LO.val,JO.run,rS,xK hp];cases hz:M.zeros (M.page b.Mem p)with
  |true=>have:(⟨-1,false,false⟩:DSlot)=M.slotFor b.Mem (M.free ss) p:=(by unfold M.slotFor;rw[hz];rfl);rw[hz,cTq]at ew eu;rw[cTq,aE ⟨by simp;omega,by simp;omega⟩];simp only[oB,JO.run,nK,Bool.true_or,cTq];rw[aD (by omega) (by omega),this,<-es,ew,eu];rfl
  |false=>
   have:(⟨(M.free ss).getD (M.used b.Mem p) default,true,false⟩:DSlot)=M.slotFor b.Mem (M.free ss) p:=(by unfold M.slotFor;rw[hz];rfl);rw[hz,cFq]at ew eu;rw[cFq,Bool.false_or];by_cases e:M.used b.Mem p<(M.free ss).length;{have hr:=rL (ss:=ss) (i:=M.used b.Mem p) e;have hdl:((M.free ss).drop (M.used b.Mem p)).length=(M.free ss).length-M.used b.Mem p:=(by simp);rw[dF (p:=(((List.drop (M.used b.Mem p) (M.free ss)).length:Nat):Int)=0) (by omega),cFq,show Int.toNat (0:Int)=0 from rfl,aQb];rw[aD (z:=(M.free ss).getD (M.used b.Mem p) default*8) (by omega) (by omega),aE ⟨by omega,by omega⟩,aE ⟨by omega,by omega,by omega⟩,aE ⟨by omega,by omega⟩,aE ⟨by simp;omega,by simp;omega⟩,aE ⟨by omega,by omega,by omega⟩];simp only[oB,JO.run,nK];rw[aD (by omega) (by omega),this,<-es,aNa rfl,aRn hpl (by omega),dT e,ew,eu];rw[show Int.toNat ((M.free ss).getD (M.used b.Mem p) default*8)=((M.free ss).getD (M.used b.Mem p) default).toNat*8 by omega];rfl}
   · rw[dF e,dT (p:=(((List.drop (M.used b.Mem p) (M.free ss)).length:Nat):Int)=0) (by simp;omega)];rfl) (λ_=>by
  simp only[eO];rfl)
 rw[oL]at key;exact key
theorem aWf{h:DHost}{b:DBare}(hs:SmallH h)(hb:SmallB b):mX h b=some (M.hostBoot h b):=by unfold mX M.hostBoot;rw[aAh hs,oB];(cases hh:M.hostOk h with|false=>rfl|true=>have hk:=cK.1 hh;have h3:=hk.three;rw[bT,cFq,aRw hb,oB,Bool.true_and];(cases hbk:M.bareOk b with|false=>rfl|true=>have hm:=aCs hbk;have hr:=zV h.Guests;have:=hb.i;have:=hb.o;rw[bT,cFq,aKh hs hk.all,oB,bIc hk,Bool.true_and];simp only[oB,LO.val,JO.run,tW];have ef:M.hostFree h=M.free (M.slots h.Guests):=(by unfold M.hostFree;rw[hh];rfl);rw[aBa hs,oB,ef,aIm hb.c,oB,aE ⟨by omega,by omega⟩,aE ⟨by omega,by omega⟩];by_cases e:M.gone h.Guests=-1;{rw[dT e,e];rw[show iter (eO b (-1)) (h.Words,M.free (M.slots h.Guests),[],0)=some (.ret (.go (h.Words,[]))) by rw[cU];rfl];rfl};{rw[aYp (by omega) hk.len hm,dF e,bF,Bool.true_and];(cases decide (M.used b.Mem 8<=(M.free (M.slots h.Guests)).length)with|false=>rfl|true=>simp only[cTq,oB,LO.val,JO.run,uC];rw[dF (by omega),cFq,aE ⟨by omega,by omega⟩];rfl)}))
theorem aEr{a b:Int}(ha:0<=a)(hb:0<b):0<=Int.tmod a b/\Int.tmod a b<b:=by rw[Int.tmod_eq_emod_of_nonneg ha];exact⟨Int.emod_nonneg _ (by omega),Int.emod_lt_of_pos _ hb⟩
theorem bGc:eV=some true:=rfl
def enc(e:DEntry):Int:=8*e.Page+(bif e.There then 1 else 0)+(bif e.Write then 2 else 0)+(bif e.User then 4 else 0)
theorem aYo{p:Int}(h0:0<=p)(h7:p<=7):p=0\/p=1\/p=2\/p=3\/p=4\/p=5\/p=6\/p=7:=by omega
theorem aSm{e:DEntry}(h0:0<=e.Page)(h7:e.Page<=7):cZ e=some (enc e):=by obtain⟨t,w,u,p⟩:=e;rcases aYo h0 h7 with h|h|h|h|h|h|h|h<;>simp only at h<;>subst h<;>cases t<;>cases w<;>cases u<;>rfl
theorem aKa{e:DEntry}(h:¬(0<=e.Page/\e.Page<=7)):cZ e=some (-1):=by unfold cZ bX;rw[show∀b y:Bool,(cond b (some y) (some false))=some (b&&y)from λb y=>by cases b<;>rfl];have e1:(decide (0<=e.Page)&&decide (e.Page<=7))=false:=(by rw[Bool.eq_false_iff];simp;omega);rw[e1];rfl
theorem aSv(a b:Nat)(ha:a<9223372036854775808)(hb:b<9223372036854775808):bits .xor .i64 (a:Int) (b:Int)=((a^^^b:Nat):Int):=by have hx:a^^^b<2^63:=Nat.xor_lt_two_pow (by omega) (by omega);have h1:(BitVec.ofInt 64 (a:Int)).toNat=a:=(by rw[BitVec.ofInt_natCast,BitVec.toNat_ofNat];exact Nat.mod_eq_of_lt (by omega));have h2:(BitVec.ofInt 64 (b:Int)).toNat=b:=(by rw[BitVec.ofInt_natCast,BitVec.toNat_ofNat];exact Nat.mod_eq_of_lt (by omega));show IntKind.i64.wrap ((BitVec.ofInt 64 (a:Int)^^^BitVec.ofInt 64 (b:Int)).toNat:Int)=_;rw[BitVec.toNat_xor,h1,h2];exact zJ (by omega) (by omega)
theorem bIu{a b:Int}(a0:0<=a)(a1:a<=9223372036854775807)(b0:0<=b)(b1:b<=9223372036854775807):0<=bits .xor .i64 a b:=by obtain⟨x,rfl⟩:=Int.eq_ofNat_of_zero_le a0;obtain⟨y,rfl⟩:=Int.eq_ofNat_of_zero_le b0;rw[aSv x y (by omega) (by omega)];omega
theorem aKt{b:List Int}(hb:∀x∈b,0<=x/\x<=255)(i:Nat):0<=b.getD i default/\b.getD i default<=255:=by by_cases h:i<b.length;{rw[List.getD,List.getElem?_eq_getElem h];exact hb _ (List.getElem_mem h)};{rw[List.getD,List.getElem?_eq_none (by omega)];exact⟨by decide,by decide⟩}
theorem bGz{r:Dl20Rd}{n:Int}(hn:1<=n)(h0:0<=r.p)(h1:r.p<=1000000)(hb:∀x∈r.b,0<=x/\x<=255):∃v,aA r n=some (⟨r.b,r.p+1⟩,v)/\0<=v/\v<n:=by
 unfold aA;have e1:w64 (r.p+1)=r.p+1:=aD (by omega) (by omega);rw[e1,show r.p+1-1=r.p by omega,aD (z:=r.p) (by omega) (by omega),decide_eq_false (show¬n<1 by omega),cond_false];by_cases hl:((r.b.length:Nat):Int)=0;{rw[decide_eq_true hl];exact⟨_,rfl,by omega,by omega⟩}
 · rw[decide_eq_false hl,cond_false]
   have hp:(0:Int)<((r.b.length:Nat):Int):=(by omega);have hn0:n≠0:=(by omega);by_cases hk:r.p<((r.b.length:Nat):Int)
   · rw[decide_eq_true hk,cond_true,aE ⟨h0,hk⟩,aE hn0]
     have g:=aKt hb r.p.toNat
     rw[zJ (by omega) (by omega)];exact⟨_,rfl,aEr g.1 (by omega)⟩
   {have e2:w64 (w64 (r.p*7)+3)=r.p*7+3:=(by rw[aD (z:=r.p*7) (by omega) (by omega),aD (by omega) (by omega)]);rw[decide_eq_false hk,cond_false,e2,aE hl,aE (aEr h0 hp),aE hl,aE (aEr (by omega) hp),aE hl,aE hn0];have g1:=aKt hb (Int.toNat (Int.tmod r.p ((r.b.length:Nat):Int)));have g2:=aKt hb (Int.toNat (Int.tmod (r.p*7+3) ((r.b.length:Nat):Int)));generalize r.b.getD (Int.toNat (Int.tmod r.p ((r.b.length:Nat):Int))) default=X at g1 ⊢;generalize r.b.getD (Int.toNat (Int.tmod (r.p*7+3) ((r.b.length:Nat):Int))) default=Y at g2 ⊢;have q:Int.tdiv r.p ((r.b.length:Nat):Int)=r.p/((r.b.length:Nat):Int):=Int.tdiv_eq_ediv_of_nonneg h0;have q0:0<=r.p/((r.b.length:Nat):Int):=Int.ediv_nonneg h0 (by omega);have q1:r.p/((r.b.length:Nat):Int)<=r.p:=Int.ediv_le_self _ h0;rw[q];generalize r.p/((r.b.length:Nat):Int)=Q at q0 q1 ⊢;have k1:IntKind.wrap .i64 X=X:=zJ (by omega) (by omega);have k2:IntKind.wrap .i64 Y=Y:=zJ (by omega) (by omega);have k3:w64 (w64 (w64 (w64 (X*131)+w64 (Y*1117))+w64 (r.p*29))+w64 (w64 Q*53))=X*131+Y*1117+r.p*29+Q*53:=(by rw[aD (z:=X*131) (by omega) (by omega),aD (z:=Y*1117) (by omega) (by omega),aD (z:=X*131+Y*1117) (by omega) (by omega),aD (z:=r.p*29) (by omega) (by omega),aD (z:=X*131+Y*1117+r.p*29) (by omega) (by omega),aD (z:=Q) (by omega) (by omega),aD (z:=Q*53) (by omega) (by omega),aD (by omega) (by omega)]);rw[k1,k2,k3];have a0:0<=X*131+Y*1117+r.p*29+Q*53:=(by omega);have a1:X*131+Y*1117+r.p*29+Q*53<=9223372036854775807:=(by omega);generalize X*131+Y*1117+r.p*29+Q*53=A at a0 a1 ⊢;have d:Int.tdiv A 64=A/64:=Int.tdiv_eq_ediv_of_nonneg a0;rw[d,aD (z:=A/64) (by omega) (by omega)];exact⟨_,rfl,aEr (bIu a0 a1 (by omega) (by omega)) (by omega)⟩}
structure Rdr (m : Int) (r : Dl20Rd) : Prop where
 b:∀x∈r.b,0<=x/\x<=255
 p0:0<=r.p
 p1:r.p<=m
theorem Rdr.up{m n:Int}{r:Dl20Rd}(h:Rdr m r)(hn:m<=n):Rdr n r:=⟨h.b,h.p0,Int.le_trans h.p1 hn⟩
theorem aL{m n:Int}{r:Dl20Rd}(R:Rdr m r)(hm:m<=1000000)(hn:1<=n):Ex (aA r n) (λv=>Rdr (m+1) v.1/\0<=v.2/\v.2<n):=by obtain⟨b,p0,p1⟩:=R;obtain⟨v,h1,h2,h3⟩:=bGz hn p0 (by omega) b;exact⟨_,h1,⟨b,by show 0<=r.p+1;omega,by show r.p+1<=m+1;omega⟩,h2,h3⟩
theorem aIy{m:Int}{r:Dl20Rd}(R:Rdr m r)(hm:m<=999999):Ex (cO r) (λv=>Rdr (m+2) v.1/\0<=v.2/\v.2<=4095):=by unfold cO;refine Ex.bind (aL R (by omega) (by omega)) λv1 ⟨R1,a1,b1⟩=>?_;refine Ex.bind (aL R1 (by omega) (by omega)) λv2 ⟨R2,a2,b2⟩=>?_;rw[aD (z:=v1.2*256) (by omega) (by omega),aD (by omega) (by omega)];exact Ex.ret ⟨R2.up (by omega),by show 0<=v1.2*256+v2.2;omega,by show v1.2*256+v2.2<=4095;omega⟩
theorem aQv{xs:List Int}(h:∀x∈xs,0<=x/\x<=255):Ex (eQ xs) (λr=>Rdr 0 r):=by unfold eQ;refine Ex.join (P:=λs=>∀x∈s,0<=x/\x<=255) ?_ λs hs=>Ex.ret ⟨hs,Int.le_refl _,Int.le_refl _⟩;refine Ex.cond (λhc=>?_) λhc=>Ex.ret ⟨_,rfl,h⟩;have:=of_decide_eq_true hc;exact Ex.grd ⟨by omega,by omega,by omega⟩ (Ex.ret ⟨_,rfl,λx hx=>h x (List.mem_of_mem_drop (List.mem_of_mem_take hx))⟩)
theorem aYl{m n:Int}{r:Dl20Rd}(R:Rdr m r)(hm:m<=1000000):Ex (bY r n) (λv=>Rdr (m+1) v.1):=by unfold bY;refine Ex.cond (λh=>?_) λ_=>Ex.ret (R.up (by omega));have:=of_decide_eq_true h;exact Ex.bind (aL R hm (by omega)) λv1 ⟨R1,_,_⟩=>Ex.ret R1
theorem aZd{m n:Int}{r:Dl20Rd}(R:Rdr m r)(hm:m<=1000000):Ex (bY r n) (λv=>Rdr (m+1) v.1/\(n<=0->v.2=false)):=by unfold bY;refine Ex.cond (λh=>?_) λ_=>Ex.ret ⟨R.up (by omega),λ_=>rfl⟩;have:=of_decide_eq_true h;exact Ex.bind (aL R hm (by omega)) λv1 ⟨R1,_,_⟩=>Ex.ret ⟨R1,λ_=>by omega⟩
theorem aGg(e:DEntry):Ex (cZ e) (λ_=>True):=by by_cases h:0<=e.Page/\e.Page<=7;{rw[aSm h.1 h.2];exact Ex.ret trivial};{rw[aKa h];exact Ex.ret trivial}
theorem bCc{m:Int}(hm:m<=990000)(h0:0<=m)(s:List Int×Int×List Int×Int)(hs:0<=s.2.2.2/\s.2.2.2<=64/\Rdr (m+8*s.2.2.2) ⟨s.1,s.2.1⟩/\(s.2.2.1.length:Int)=s.2.2.2):
 Ex (pR s) (λo=>(∃s',o= .next s'/\(0<=s'.2.2.2/\s'.2.2.2<=64/\Rdr (m+8*s'.2.2.2) ⟨s'.1,s'.2.1⟩/\(s'.2.2.1.length:Int)=s'.2.2.2)/\64-s'.2.2.2.toNat<64-s.2.2.2.toNat)\/∃t,o= .ret (.go t)/\(Rdr (m+512) ⟨t.1,t.2.1⟩/\t.2.2.length=64)):=by
 obtain⟨b,p,mem,k⟩:=s;obtain⟨k0,k1,R,hl⟩:=hs;simp only at k0 k1 R hl;unfold pR;refine Ex.cond (λhk=>?_) λhk=>?_
 · have hk:k<64:=of_decide_eq_true hk
   refine Ex.join (P:=λs8:List Int×Int×Int=>Rdr (m+8*k+3) ⟨s8.1,s8.2.1⟩) ?_ λs8 R8=>?_;{refine Ex.bind (aL R (by omega) (by omega)) λv1 ⟨R1,a1,b1⟩=>?_;refine Ex.cond (λ_=>?_) λ_=>?_;{exact Ex.bind (aIy R1 (by omega)) λv2 ⟨R2,_,_⟩=>Ex.ret ⟨_,rfl,R2.up (by omega)⟩};{exact Ex.ret ⟨_,rfl,R1.up (by omega)⟩}}
   · unfold wT
     refine Ex.join (P:=λs9:List Int×Int×Int=>Rdr (m+8*k+7) ⟨s9.1,s9.2.1⟩) ?_ λs9 R9=>?_
     · have e:∀Q:JO (List Int×Int×Int) (LO (List Int×Int×List Int×Int) (JO (List Int×Int×List Int) (Dl20Rd×List Int)))->Prop,(∀v:Dl20Rd×Int,∀w,Rdr (m+8*k+7) v.1->Q (.go (v.1.b,v.1.p,w)))->Ex (Option.bind (aA (Dl20Rd.mk s8.1 s8.2.1) (5:Int)) λv10=>
        Option.bind (aA v10.1 (4:Int)) λv11=>
        Option.bind (aA v11.1 (3:Int)) λv12=>
        Option.bind (aA v12.1 (8:Int)) λv13=>
        Option.bind (cZ (DEntry.mk (decide ((0:Int)<v10.2)) (decide ((0:Int)<v11.2)) (decide ((0:Int)<v12.2)) v13.2)) λv14=>
        some (.go (v13.1.b,v13.1.p,v14))) Q:=λQ hQ=>by
        refine Ex.bind (aL R8 (by omega) (by omega)) λv1 ⟨R1,a1,b1⟩=>?_;refine Ex.bind (aL R1 (by omega) (by omega)) λv2 ⟨R2,a2,b2⟩=>?_;refine Ex.bind (aL R2 (by omega) (by omega)) λv3 ⟨R3,a3,b3⟩=>?_;refine Ex.bind (aL R3 (by omega) (by omega)) λv4 ⟨R4,a4,b4⟩=>?_;refine Ex.bind (aGg _) λv5 _=>?_;exact Ex.ret (hQ v4 v5 (R4.up (by omega)))
       refine Ex.cond (λ_=>?_) λ_=>?_;{exact e _ λv w h=>⟨_,rfl,h⟩};{refine Ex.cond (λ_=>?_) λ_=>?_;{exact e _ λv w h=>⟨_,rfl,h⟩};{exact Ex.ret ⟨_,rfl,R8.up (by omega)⟩}}
     · unfold wK
       refine Ex.grd ⟨by simp only[List.length_cons,List.length_nil];omega,by simp only[List.length_cons,List.length_nil];omega⟩ (Ex.ret (.inl ⟨_,rfl,⟨?_,?_,?_,?_⟩,?_⟩));all_goals simp only[aD (z:=k+1) (by omega) (by omega),List.length_append,List.length_cons,List.length_nil]
       {omega};{omega};{exact R9.up (by omega)};{omega};{omega}
 {have hk:¬k<64:=of_decide_eq_false hk;exact Ex.ret (.inr ⟨_,rfl,R.up (by omega),by show mem.length=64;omega⟩)}
theorem bEw{m n:Int}{r:Dl20Rd}(R:Rdr m r)(h0:0<=m)(hm:m<=990000):Ex (mA r n) (λv=>Rdr (m+600) v.1/\v.2.length<=64/\(n<=0->v.2.length=64)):=by unfold mA;refine Ex.join (Ex.loopv (λs:List Int×Int×List Int×Int=>0<=s.2.2.2/\s.2.2.2<=64/\Rdr (m+8*s.2.2.2) ⟨s.1,s.2.1⟩/\(s.2.2.1.length:Int)=s.2.2.2) (λs=>64-s.2.2.2.toNat) (λt=>Rdr (m+512) ⟨t.1,t.2.1⟩/\t.2.2.length=64) ⟨by simp,by simp,R.up (by simp),by simp⟩ (bCc hm h0)) λs1 ⟨R1,hl⟩=>?_;unfold wF;refine Ex.join (P:=λs2:List Int×Int×List Int=>Rdr (m+600) ⟨s2.1,s2.2.1⟩/\s2.2.2.length<=64/\(n<=0->s2.2.2.length=64)) ?_ λs2 h2=>Ex.ret h2;refine Ex.bind (aZd R1 (by omega)) λv3 ⟨R3,o3⟩=>?_;refine Ex.cond (λhv=>?_) λ_=>?_;{refine Ex.bind (aL R3 (by omega) (by omega)) λv4 ⟨R4,a4,b4⟩=>?_;refine Ex.cond (λ_=>?_) λ_=>?_;{exact Ex.grd ⟨by omega,by omega,by omega⟩ (Ex.ret ⟨_,rfl,R4.up (by omega),by rw[List.length_take];omega,λhn=>by rw[o3 hn]at hv;cases hv⟩)};{refine Ex.bind (aL R4 (by omega) (by omega)) λv5 ⟨R5,a5,b5⟩=>?_;refine Ex.bind (aL R5 (by omega) (by omega)) λv6 ⟨R6,a6,b6⟩=>?_;exact Ex.grd ⟨by omega,by omega⟩ (Ex.ret ⟨_,rfl,R6.up (by omega),by rw[lS];omega,λhn=>by rw[o3 hn]at hv;cases hv⟩)}};{exact Ex.ret ⟨_,rfl,R3.up (by omega),by show s1.2.2.length<=64;omega,λ_=>hl⟩}
theorem aKr{Q:Bool->Prop}(h:Q true):Ex eV Q:=⟨_,bGc,h⟩
theorem bAj{m:Int}(hm:m<=990000)(h0:0<=m)(s:List Int×Int×List Int×Int)(hs:0<=s.2.2.2/\s.2.2.2<=4/\Rdr (m+8*s.2.2.2) ⟨s.1,s.2.1⟩/\(s.2.2.1.length:Int)=s.2.2.2):
 Ex (nO s) (λo=>(∃s',o= .next s'/\(0<=s'.2.2.2/\s'.2.2.2<=4/\Rdr (m+8*s'.2.2.2) ⟨s'.1,s'.2.1⟩/\(s'.2.2.1.length:Int)=s'.2.2.2)/\4-s'.2.2.2.toNat<4-s.2.2.2.toNat)\/∃t,o= .ret (.go t)/\(Rdr (m+32) ⟨t.1,t.2.1⟩/\t.2.2.length=4)):=by
 obtain⟨b,p,rs,k⟩:=s;obtain⟨k0,k1,R,hl⟩:=hs;simp only at k0 k1 R hl;unfold nO;refine Ex.cond (λhk=>?_) λhk=>?_
 · have hk:k<4:=of_decide_eq_true hk
   refine Ex.bind (aL R (by omega) (by omega)) λv1 ⟨R1,a1,b1⟩=>?_;refine Ex.bind (aL R1 (by omega) (by omega)) λv2 ⟨R2,a2,b2⟩=>?_;refine Ex.bind (aIy R2 (by omega)) λv3 ⟨R3,a3,b3⟩=>?_;refine Ex.bind (aL R3 (by omega) (by omega)) λv4 ⟨R4,a4,b4⟩=>?_;refine Ex.grd ⟨a4,by simp only[List.length_cons,List.length_nil];omega⟩ ?_;refine Ex.grd ⟨by simp only[List.length_cons,List.length_nil];omega,by simp only[List.length_cons,List.length_nil];omega⟩ (Ex.ret (.inl ⟨_,rfl,⟨?_,?_,?_,?_⟩,?_⟩));all_goals simp only[aD (z:=k+1) (by omega) (by omega),List.length_append,List.length_cons,List.length_nil]
   {omega};{omega};{exact R4.up (by omega)};{omega};{omega}
 {have hk:¬k<4:=of_decide_eq_false hk;exact Ex.ret (.inr ⟨_,rfl,R.up (by omega),by show rs.length=4;omega⟩)}
theorem bAi{m n:Int}{r:Dl20Rd}(R:Rdr m r)(h0:0<=m)(hm:m<=980000):Ex (kT r n) (λv=>Rdr (m+60) v.1/\v.2.Regs.length<=4):=by unfold kT;refine Ex.bind (aL R (by omega) (by omega)) λv1 ⟨R1,a1,b1⟩=>?_;refine Ex.bind (aL R1 (by omega) (by omega)) λv2 ⟨R2,a2,b2⟩=>?_;refine Ex.grd ⟨a2,by simp only[List.length_cons,List.length_nil];omega⟩ ?_;refine Ex.bind (aL R2 (by omega) (by omega)) λv3 ⟨R3,a3,b3⟩=>?_;refine Ex.bind (aL R3 (by omega) (by omega)) λv4 ⟨R4,a4,b4⟩=>?_;refine Ex.bind (aL R4 (by omega) (by omega)) λv5 ⟨R5,a5,b5⟩=>?_;refine Ex.bind (aL R5 (by omega) (by omega)) λv6 ⟨R6,a6,b6⟩=>?_;refine Ex.bind (aL R6 (by omega) (by omega)) λv7 ⟨R7,a7,b7⟩=>?_;refine Ex.bind (aL R7 (by omega) (by omega)) λv8 ⟨R8,a8,b8⟩=>?_;refine Ex.bind (aL R8 (by omega) (by omega)) λv9 ⟨R9,a9,b9⟩=>?_;refine Ex.bind (aL R9 (by omega) (by omega)) λv10 ⟨R10,a10,b10⟩=>?_;refine Ex.bind (aL R10 (by omega) (by omega)) λv11 ⟨R11,a11,b11⟩=>?_;refine Ex.bind (aL R11 (by omega) (by omega)) λv12 ⟨R12,a12,b12⟩=>?_;refine Ex.bind (aL R12 (by omega) (by omega)) λv13 ⟨R13,a13,b13⟩=>?_;have R13:Rdr (m+13) v13.1:=R13.up (by omega);refine Ex.join (Ex.loopv (λs:List Int×Int×List Int×Int=>0<=s.2.2.2/\s.2.2.2<=4/\Rdr (m+13+8*s.2.2.2) ⟨s.1,s.2.1⟩/\(s.2.2.1.length:Int)=s.2.2.2) (λs=>4-s.2.2.2.toNat) (λt=>Rdr (m+13+32) ⟨t.1,t.2.1⟩/\t.2.2.length=4) ⟨by simp,by simp,R13.up (by simp),by simp⟩ (bAj (by omega) (by omega))) λs1 ⟨RL,hl⟩=>?_;unfold uD;refine Ex.join (P:=λs2:List Int×Int×List Int×Int×Int=>Rdr (m+60) ⟨s2.1,s2.2.1⟩/\s2.2.2.1.length<=4) ?_ λs2 h2=>Ex.ret h2;refine Ex.bind (aYl RL (by omega)) λv16 R16=>?_;have R16:Rdr (m+46) v16.1:=R16.up (by omega);refine Ex.cond (λ_=>?_) λ_=>?_;{refine Ex.bind (aL R16 (by omega) (by omega)) λv17 ⟨R17,a17,b17⟩=>?_;refine Ex.cond (λ_=>?_) λ_=>?_;{exact Ex.grd ⟨by omega,by omega,by omega⟩ (Ex.ret ⟨_,rfl,R17.up (by omega),by simp only[List.length_take];omega⟩)};{refine Ex.cond (λ_=>?_) λ_=>?_;{exact Ex.bind (aL R17 (by omega) (by omega)) λv18 ⟨R18,a18,b18⟩=>Ex.ret ⟨_,rfl,R18.up (by omega),by simp only;omega⟩};{refine Ex.cond (λ_=>?_) λ_=>?_;{exact Ex.bind (aL R17 (by omega) (by omega)) λv18 ⟨R18,a18,b18⟩=>Ex.ret ⟨_,rfl,R18.up (by omega),by simp only;omega⟩};{exact Ex.bind (aL R17 (by omega) (by omega)) λv18 ⟨R18,a18,b18⟩=>Ex.grd ⟨by omega,by omega⟩ (Ex.ret ⟨_,rfl,R18.up (by omega),by simp only[lS];omega⟩)}}}};{exact Ex.ret ⟨_,rfl,R16.up (by omega),by simp only;omega⟩}
namespace M
def insOk(x:DIns):Bool:=inR 0 15 x.Op&&inR 0 3 x.A&&inR 0 63 x.N
end M
theorem bGu(x:DIns):qU x=some (M.insOk x):=by unfold qU;rw[tZ,tZ,tZ];simp only[oB,M.insOk];cases M.inR 0 15 x.Op<;>cases M.inR 0 3 x.A<;>cases M.inR 0 63 x.N<;>rfl
theorem aZr(x:DIns):Ex (nX x) (λ_=>True):=by unfold nX;rw[bGu];exact Ex.cond (λ_=>Ex.ret trivial) λ_=>Ex.ret trivial
theorem bKo{m n:Int}{r:Dl20Rd}(R:Rdr m r)(hm:m<=999000):Ex (pI r n) (λv=>Rdr (m+6) v.1):=by unfold pI;refine Ex.bind (aL R (by omega) (by omega)) λv1 ⟨R1,a1,b1⟩=>?_;refine Ex.bind (aL R1 (by omega) (by omega)) λv2 ⟨R2,a2,b2⟩=>?_;refine Ex.bind (aL R2 (by omega) (by omega)) λv3 ⟨R3,a3,b3⟩=>?_;refine Ex.join (P:=λs:Int×List Int×Int×Int×Int=>Rdr (m+6) ⟨s.2.1,s.2.2.1⟩) ?_ λs hs=>Ex.ret hs;refine Ex.bind (aYl R3 (by omega)) λv5 R5=>?_;refine Ex.cond (λ_=>?_) λ_=>Ex.ret ⟨_,rfl,R5.up (by omega)⟩;refine Ex.bind (aL R5 (by omega) (by omega)) λv6 ⟨R6,a6,b6⟩=>?_;refine Ex.cond (λ_=>?_) λ_=>?_;{exact Ex.bind (aL R6 (by omega) (by omega)) λv7 ⟨R7,_,_⟩=>Ex.ret ⟨_,rfl,R7.up (by omega)⟩};{refine Ex.cond (λ_=>?_) λ_=>?_;{exact Ex.ret ⟨_,rfl,R6.up (by omega)⟩};{exact Ex.bind (aL R6 (by omega) (by omega)) λv7 ⟨R7,_,_⟩=>Ex.ret ⟨_,rfl,R7.up (by omega)⟩}}
theorem aYy{m:Int}{L:Nat}(hL:L<=64)(hm:m<=900000)(h0:0<=m)(s:List Int×Int×List Int×Int)(hs:0<=s.2.2.2/\s.2.2.2<=(L:Int)/\Rdr (m+12*s.2.2.2) ⟨s.1,s.2.1⟩/\s.2.2.1.length=L):
 Ex (oV s) (λo=>(∃s',o= .next s'/\(0<=s'.2.2.2/\s'.2.2.2<=(L:Int)/\Rdr (m+12*s'.2.2.2) ⟨s'.1,s'.2.1⟩/\s'.2.2.1.length=L)/\L-s'.2.2.2.toNat<L-s.2.2.2.toNat)\/∃t,o= .ret (.go t)/\(Rdr (m+768) ⟨t.2.1,t.2.2⟩/\t.1.length=L)):=by
 obtain⟨b,p,mem,k⟩:=s;obtain⟨k0,k1,R,hl⟩:=hs;simp only at k0 k1 R hl;unfold oV;refine Ex.cond (λhk=>?_) λhk=>?_
 · have hk:k<(mem.length:Int):=of_decide_eq_true hk
   refine Ex.join (P:=λs4:List Int×Int×List Int=>Rdr (m+12*k+12) ⟨s4.1,s4.2.1⟩/\s4.2.2.length=L) ?_ λs4 ⟨R4,hl4⟩=>?_;{refine Ex.join (P:=λ_:Bool=>True) (Ex.cond (λ_=>Ex.ret ⟨_,rfl,trivial⟩) λ_=>Ex.ret ⟨_,rfl,trivial⟩) λs5 _=>?_;unfold uX;refine Ex.cond (λ_=>?_) λ_=>?_;{refine Ex.bind (aL R (by omega) (by omega)) λv6 ⟨R6,a6,b6⟩=>?_;refine Ex.cond (λ_=>?_) λ_=>Ex.ret ⟨_,rfl,R6.up (by omega),hl⟩;refine Ex.bind (aL R6 (by omega) (by omega)) λv7 ⟨R7,a7,b7⟩=>?_;refine Ex.bind (aL R7 (by omega) (by omega)) λv8 ⟨R8,a8,b8⟩=>?_;refine Ex.bind (aL R8 (by omega) (by omega)) λv9 ⟨R9,a9,b9⟩=>?_;refine Ex.bind (aGg _) λv10 _=>?_;exact Ex.grd ⟨k0,hk⟩ (Ex.ret ⟨_,rfl,R9.up (by omega),by simp only[lS];exact hl⟩)};{refine Ex.bind (bKo R (by omega)) λv11 R11=>?_;refine Ex.join (P:=λs12:List Int×Int×Int=>Rdr (m+12*k+8) ⟨s12.1,s12.2.1⟩) ?_ λs12 R12=>?_;{refine Ex.bind (aL R11 (by omega) (by omega)) λv16 ⟨R16,a16,b16⟩=>?_;refine Ex.cond (λ_=>?_) λ_=>Ex.ret ⟨_,rfl,R16.up (by omega)⟩;refine Ex.bind (aL R16 (by omega) (by omega)) λv17 ⟨R17,a17,b17⟩=>?_;exact Ex.grd ⟨a17,b17⟩ (Ex.ret ⟨_,rfl,R17.up (by omega)⟩)};{unfold tE;refine Ex.join (P:=λs13:List Int×Int×Int=>Rdr (m+12*k+9) ⟨s13.1,s13.2.1⟩) ?_ λs13 R13=>?_;{refine Ex.cond (λ_=>?_) λ_=>Ex.ret ⟨_,rfl,R12.up (by omega)⟩;refine Ex.bind (aL R12 (by omega) (by omega)) λv15 ⟨R15,a15,b15⟩=>?_;exact Ex.cond (λ_=>Ex.ret ⟨_,rfl,R15.up (by omega)⟩) λ_=>Ex.ret ⟨_,rfl,R15.up (by omega)⟩};{unfold tT;refine Ex.bind (aZr _) λv14 _=>?_;exact Ex.grd ⟨k0,hk⟩ (Ex.ret ⟨_,rfl,R13.up (by omega),by simp only[lS];exact hl⟩)}}}}
   · unfold uP
     refine Ex.ret (.inl ⟨_,rfl,⟨?_,?_,?_,?_⟩,?_⟩);all_goals simp only[aD (z:=k+1) (by omega) (by omega)]
     {omega};{omega};{exact R4.up (by omega)};{exact hl4};{omega}
 {have hk:¬k<(mem.length:Int):=of_decide_eq_false hk;exact Ex.ret (.inr ⟨_,rfl,R.up (by omega),hl⟩)}
theorem bJd{m:Int}{r:Dl20Rd}(R:Rdr m r)(h0:0<=m)(hm:m<=800000):Ex (oN r) (λv=>Rdr (m+1400) v.1/\v.2.length=64):=by unfold oN;refine Ex.bind (bEw R h0 (by omega)) λv1 ⟨R1,hl,hl0⟩=>?_;have hl0:=hl0 (by omega);refine Ex.join (Ex.loopv (λs:List Int×Int×List Int×Int=>0<=s.2.2.2/\s.2.2.2<=(v1.2.length:Int)/\Rdr (m+600+12*s.2.2.2) ⟨s.1,s.2.1⟩/\s.2.2.1.length=v1.2.length) (λs=>v1.2.length-s.2.2.2.toNat) (λt=>Rdr (m+600+768) ⟨t.2.1,t.2.2⟩/\t.1.length=v1.2.length) ⟨by simp,by simp,R1.up (by simp),rfl⟩ (aYy hl (by omega) (by omega))) λs2 ⟨R2,h2⟩=>?_;unfold uS;exact Ex.ret ⟨R2.up (by omega),by show s2.1.length=64;omega⟩
theorem aWj{m:Int}(hm:m<=900000)(h0:0<=m)(s:List Int×Int×List Int×Int)(hs:0<=s.2.2.2/\s.2.2.2<=3/\Rdr (m+2*(3-s.2.2.2)) ⟨s.1,s.2.1⟩/\(s.2.2.1.length:Int)+s.2.2.2<=3):
 Ex (kC s) (λo=>(∃s',o= .next s'/\(0<=s'.2.2.2/\s'.2.2.2<=3/\Rdr (m+2*(3-s'.2.2.2)) ⟨s'.1,s'.2.1⟩/\(s'.2.2.1.length:Int)+s'.2.2.2<=3)/\s'.2.2.2.toNat<s.2.2.2.toNat)\/∃t,o= .ret (.go t)/\(Rdr (m+6) ⟨t.1,t.2.1⟩/\t.2.2.length<=3)):=by
 obtain⟨b,p,l,k⟩:=s;obtain⟨k0,k1,R,hl⟩:=hs;simp only at k0 k1 R hl;unfold kC;refine Ex.cond (λhk=>?_) λhk=>?_
 · have hk:0<k:=of_decide_eq_true hk
   refine Ex.bind (aIy R (by omega)) λv ⟨R1,a1,b1⟩=>?_;refine Ex.grd ⟨by simp only[List.length_cons,List.length_nil];omega,by simp only[List.length_cons,List.length_nil];omega⟩ (Ex.ret (.inl ⟨_,rfl,⟨?_,?_,?_,?_⟩,?_⟩));all_goals simp only[aD (z:=k-1) (by omega) (by omega),List.length_append,List.length_cons,List.length_nil]
   {omega};{omega};{exact R1.up (by omega)};{omega};{omega}
 {have hk:¬0<k:=of_decide_eq_false hk;exact Ex.ret (.inr ⟨_,rfl,R.up (by omega),by show l.length<=3;omega⟩)}
theorem aUr{m k:Int}{r:Dl20Rd}(R:Rdr m r)(h0:0<=m)(hm:m<=900000)(k0:0<=k)(k1:k<=3):Ex (Option.bind (iter kC (r.b,r.p,[],k)) LO.val) (λj=>∃t,j= .go t/\(Rdr (m+6) ⟨t.1,t.2.1⟩/\t.2.2.length<=3)):=Ex.loopv (λs:List Int×Int×List Int×Int=>0<=s.2.2.2/\s.2.2.2<=3/\Rdr (m+2*(3-s.2.2.2)) ⟨s.1,s.2.1⟩/\(s.2.2.1.length:Int)+s.2.2.2<=3) (λs=>s.2.2.2.toNat) (λt:List Int×Int×List Int=>Rdr (m+6) ⟨t.1,t.2.1⟩/\t.2.2.length<=3) ⟨k0,k1,R.up (by simp only;omega),by simp only[List.length_nil];omega⟩ (aWj hm h0)
theorem bDi{m k:Int}{r:Dl20Rd}(R:Rdr m r)(h0:0<=m)(hm:m<=900000)(k0:0<=k)(k1:k<=3):Ex (Option.bind (iter tO (r.b,r.p,[],k)) LO.val) (λj=>∃t,j= .go t/\(Rdr (m+6) ⟨t.1,t.2.1⟩/\t.2.2.length<=3)):=aUr R h0 hm k0 k1
structure Tiny (b : DBare) : Prop where
 regs:b.C.Regs.length<=4
 mem:b.Mem.length<=64
 i:b.In.length<=31
 o:b.Out.length<=31
theorem Tiny.small{b:DBare}(h:Tiny b):SmallB b:=⟨⟨by have:=h.regs;omega⟩,by have:=h.mem;omega,by have:=h.i;omega,by have:=h.o;omega⟩
theorem aSd{m n:Int}{r:Dl20Rd}(R:Rdr m r)(h0:0<=m)(hm:m<=700000):Ex (jA r n) (λv=>Rdr (m+3000) v.1/\Tiny v.2/\(n<=0->v.2.Mem.length=64)):=by unfold jA;refine Ex.bind (bAi R h0 (by omega)) λv1 ⟨R1,c1⟩=>?_;refine Ex.bind (bJd R1 (by omega) (by omega)) λv2 ⟨R2,c2⟩=>?_;refine Ex.join (Ex.bind (aL R2 (by omega) (by omega)) λv13 ⟨R13,a13,b13⟩=>aUr R13 (by omega) (by omega) a13 (by omega)) λs3 ⟨R3,c3⟩=>?_;unfold uQ;refine Ex.join (Ex.bind (aL R3 (by omega) (by omega)) λv10 ⟨R10,a10,b10⟩=>bDi R10 (by omega) (by omega) a10 (by omega)) λs4 ⟨R4,c4⟩=>?_;unfold uT;refine Ex.join (P:=λs5:List Int×Int×Int×Int×Int×Bool×Int×Int×Int×Bool×Bool×Bool×Bool×List Int×Int×List Int×List Int=>Rdr (m+3000) ⟨s5.2.2.2.2.2.2.2.2.2.2.2.2.2.1,s5.2.2.2.2.2.2.2.2.2.2.2.2.2.2.1⟩/\s5.1.length<=4/\s5.2.2.2.2.2.2.2.2.2.2.2.2.2.2.2.1.length<=64/\s5.2.2.2.2.2.2.2.2.2.2.2.2.2.2.2.2.length<=31/\(n<=0->s5.2.2.2.2.2.2.2.2.2.2.2.2.2.2.2.1.length=64)) ?_ λs5 ⟨h5,g1,g2,g3,g4⟩=>Ex.ret ⟨h5,⟨g1,g2,g3,by show s4.2.2.length<=31;omega⟩,g4⟩;have c2':v2.2.length<=64:=(by omega);refine Ex.bind (aZd R4 (by omega)) λv6 ⟨R6,o6⟩=>?_;refine Ex.cond (λhv=>?_) λ_=>Ex.ret ⟨_,rfl,R6.up (by omega),c1,c2',by simp only;omega,λ_=>c2⟩;refine Ex.bind (aL R6 (by omega) (by omega)) λv7 ⟨R7,a7,b7⟩=>?_;refine Ex.cond (λ_=>?_) λ_=>?_;{exact Ex.bind (bAi R7 (by omega) (by omega)) λv8 ⟨R8,c8⟩=>Ex.ret ⟨_,rfl,R8.up (by omega),c8,c2',by simp only;omega,λhn=>by rw[o6 hn]at hv;cases hv⟩};{refine Ex.cond (λ_=>?_) λ_=>?_;{exact Ex.bind (bEw R7 (by omega) (by omega)) λv8 ⟨R8,c8,_⟩=>Ex.ret ⟨_,rfl,R8.up (by omega),c1,c8,by simp only;omega,λhn=>by rw[o6 hn]at hv;cases hv⟩};{exact Ex.ret ⟨_,rfl,R7.up (by omega),c1,c2',by simp,λhn=>by rw[o6 hn]at hv;cases hv⟩}}
structure LG (g : DGuest) : Prop where
 small:SmallG g
 pages:g.Live=true->g.Pages.length=8
structure LH (gs : List DGuest) : Prop where
 three:gs.length=3
 all:∀g∈gs,LG g
theorem LH.set{gs:List DGuest}{i:Nat}{x:DGuest}(h:LH gs)(hx:LG x):LH (gs.set i x):=by refine⟨by rw[lS];exact h.three,λg hg=>?_⟩;rcases List.mem_or_eq_of_mem_set hg with hg|rfl;{exact h.all g hg};{exact hx}
theorem LH.get{gs:List DGuest}(h:LH gs){i:Nat}(hi:i<3):LG (gs.getD i default):=h.all _ (dN (by rw[h.three];exact hi))
theorem LH.host{gs:List DGuest}{ws:List Int}(h:LH gs)(hw:ws.length=160):SmallH ⟨ws,gs⟩:=⟨by simp only[hw];omega,by simp only[h.three];omega,λg hg=>(h.all g hg).small⟩
theorem bFv{h:DHost}{b:DBare}(hb:(M.hostBoot h b).2.2=true)(hs:SmallB b)(hl:LH h.Guests):(M.hostBoot h b).1.Words.length=160/\LH (M.hostBoot h b).1.Guests:=by unfold M.hostBoot at hb ⊢;(cases hc:(M.hostOk h&&M.bareOk b&&(!decide (M.gone h.Guests=-1)&&decide (M.used b.Mem 8<=(M.free (M.slots h.Guests)).length)))with|false=>rw[hc]at hb;cases hb|true=>simp only[bA,decide_eq_true_eq]at hc;have hk:=cK.1 hc.1.1;simp only[cTq,M.booted];exact⟨gK hk.len (by omega) hc.2.2,hl.set ⟨⟨hs.c,by simp[M.slotsFor],hs.i,hs.o⟩,λ_=>by simp[M.slotsFor]⟩⟩)
abbrev S18:=List Int×Int×List Int×List DGuest×List Int×Int×Int×Int×Int×Bool×Int×Int×Int×Bool×Bool×Bool×Bool×List Int×List Int×List Int×Int
abbrev S19:=List Int×Int×List Int×List DGuest×List Int×Int×Int×Int×Int×Bool×Int×Int×Int×Bool×Bool×Bool×Bool×List Int×List Int×List Int
theorem bBj{m:Int}(hm:m<=900000)(h0:0<=m)(s:List Int×Int×List Int×Int)(hs:0<=s.2.2.2/\s.2.2.2<=160/\Rdr (m+3*s.2.2.2) ⟨s.1,s.2.1⟩/\s.2.2.1.length=160):
 Ex (nL s) (λo=>(∃s',o= .next s'/\(0<=s'.2.2.2/\s'.2.2.2<=160/\Rdr (m+3*s'.2.2.2) ⟨s'.1,s'.2.1⟩/\s'.2.2.1.length=160)/\160-s'.2.2.2.toNat<160-s.2.2.2.toNat)\/∃t,o= .ret (.go t)/\(Rdr (m+480) ⟨t.1,t.2.1⟩/\t.2.2.length=160)):=by
 obtain⟨b,p,ws,k⟩:=s;obtain⟨k0,k1,R,hl⟩:=hs;simp only at k0 k1 R hl;unfold nL;refine Ex.cond (λhk=>?_) λhk=>?_
 · have hk:k<(ws.length:Int):=of_decide_eq_true hk
   refine Ex.join (P:=λs:List Int×Int×List Int=>Rdr (m+3*k+3) ⟨s.1,s.2.1⟩/\s.2.2.length=160) ?_ λs ⟨R1,h1⟩=>?_;{refine Ex.bind (aL R (by omega) (by omega)) λv ⟨R1,_,_⟩=>?_;refine Ex.cond (λ_=>?_) λ_=>Ex.ret ⟨_,rfl,R1.up (by omega),hl⟩;refine Ex.bind (aIy R1 (by omega)) λv ⟨R2,_,_⟩=>?_;exact Ex.grd ⟨k0,hk⟩ (Ex.ret ⟨_,rfl,R2.up (by omega),by simp only[lS];exact hl⟩)}
   · unfold tH
     refine Ex.ret (.inl ⟨_,rfl,⟨?_,?_,?_,?_⟩,?_⟩);all_goals simp only[aD (z:=k+1) (by omega) (by omega)]
     {omega};{omega};{exact R1.up (by omega)};{exact h1};{omega}
 {have hk:¬k<(ws.length:Int):=of_decide_eq_false hk;exact Ex.ret (.inr ⟨_,rfl,R.up (by omega),hl⟩)}
theorem bDt{m:Int}{s18:S18}(hm:m<=900000)(h0:0<=m)(hsame:s18.2.2.2.2.2.2.2.2.2.2.2.2.2.2.2.2.2.1.length=0\/s18.2.2.2.2.2.2.2.2.2.2.2.2.2.2.2.2.2.1.length=64)(s:List Int×Int×List Int×Int)(hs:0<=s.2.2.2/\s.2.2.2<=8/\Rdr (m+2*s.2.2.2) ⟨s.1,s.2.1⟩/\s.2.2.1.length=64):
 Ex (mY s18 s) (λo=>(∃s',o= .next s'/\(0<=s'.2.2.2/\s'.2.2.2<=8/\Rdr (m+2*s'.2.2.2) ⟨s'.1,s'.2.1⟩/\s'.2.2.1.length=64)/\8-s'.2.2.2.toNat<8-s.2.2.2.toNat)\/∃t,o= .ret (.go t)/\(Rdr (m+16) ⟨t.1,t.2.1⟩/\t.2.2.length=64)):=by
 obtain⟨b,p,mem,k⟩:=s;obtain⟨k0,k1,R,hl⟩:=hs;simp only at k0 k1 R hl;unfold mY;refine Ex.cond (λhk=>?_) λhk=>?_
 · have hk:k<8:=of_decide_eq_true hk
   have e1:w64 (k*8)=k*8:=aD (by omega) (by omega);have e2:w64 ((w64 (k+1))*8)=(k+1)*8:=(by rw[aD (z:=k+1) (by omega) (by omega),aD (by omega) (by omega)]);refine Ex.join (P:=λs:List Int×Int×List Int=>Rdr (m+2*k+2) ⟨s.1,s.2.1⟩/\s.2.2.length=64) ?_ λs ⟨R1,h1⟩=>?_;{refine Ex.join (P:=λs:List Int×Int×List Int=>Rdr (m+2*k+1) ⟨s.1,s.2.1⟩/\s.2.2.length=64) ?_ λs ⟨R1,h1⟩=>?_;{refine Ex.cond (λ_=>?_) λ_=>Ex.ret ⟨_,rfl,R.up (by omega),hl⟩;refine Ex.bind (aL R (by omega) (by omega)) λv ⟨R1,_,_⟩=>?_;refine Ex.cond (λ_=>?_) λ_=>Ex.ret ⟨_,rfl,R1,hl⟩;simp only[e1];exact Ex.grd ⟨by omega,by omega,by omega⟩ (Ex.ret ⟨_,rfl,R1,by simp only[aAp,List.length_replicate];omega⟩)};{unfold tB;refine Ex.cond (λhz=>?_) λ_=>Ex.ret ⟨_,rfl,R1.up (by omega),h1⟩;have hz:=of_decide_eq_true hz;have h64:=hsame.resolve_left (by omega);refine Ex.bind (aL R1 (by omega) (by omega)) λv ⟨R2,_,_⟩=>?_;refine Ex.cond (λ_=>?_) λ_=>Ex.ret ⟨_,rfl,R2.up (by omega),h1⟩;simp only[e1,e2];exact Ex.grd ⟨by omega,by omega,by omega⟩ (Ex.grd ⟨by omega,by omega,by omega⟩ (Ex.ret ⟨_,rfl,R2.up (by omega),by simp only[aAp,List.length_take,List.length_drop];omega⟩))}}
   · unfold sT
     refine Ex.ret (.inl ⟨_,rfl,⟨?_,?_,?_,?_⟩,?_⟩);all_goals simp only[aD (z:=k+1) (by omega) (by omega)]
     {omega};{omega};{exact R1.up (by omega)};{exact h1};{omega}
 {have hk:¬k<8:=of_decide_eq_false hk;exact Ex.ret (.inr ⟨_,rfl,R.up (by omega),hl⟩)}
theorem bBd{m:Int}(hm:m<=600000)(h0:0<=m)(s:S18)(hs:0<=s.2.2.2.2.2.2.2.2.2.2.2.2.2.2.2.2.2.2.2.2/\s.2.2.2.2.2.2.2.2.2.2.2.2.2.2.2.2.2.2.2.2<=3/\Rdr (m+3100*(3-s.2.2.2.2.2.2.2.2.2.2.2.2.2.2.2.2.2.2.2.2)) ⟨s.1,s.2.1⟩/\s.2.2.1.length=160/\LH s.2.2.2.1/\(s.2.2.2.2.2.2.2.2.2.2.2.2.2.2.2.2.2.1.length=0\/s.2.2.2.2.2.2.2.2.2.2.2.2.2.2.2.2.2.1.length=64)):
 Ex (nJ s) (λo=>(∃s',o= .next s'/\(0<=s'.2.2.2.2.2.2.2.2.2.2.2.2.2.2.2.2.2.2.2.2/\s'.2.2.2.2.2.2.2.2.2.2.2.2.2.2.2.2.2.2.2.2<=3/\Rdr (m+3100*(3-s'.2.2.2.2.2.2.2.2.2.2.2.2.2.2.2.2.2.2.2.2)) ⟨s'.1,s'.2.1⟩/\s'.2.2.1.length=160/\LH s'.2.2.2.1/\(s'.2.2.2.2.2.2.2.2.2.2.2.2.2.2.2.2.2.1.length=0\/s'.2.2.2.2.2.2.2.2.2.2.2.2.2.2.2.2.2.1.length=64))/\s'.2.2.2.2.2.2.2.2.2.2.2.2.2.2.2.2.2.2.2.2.toNat<s.2.2.2.2.2.2.2.2.2.2.2.2.2.2.2.2.2.2.2.2.toNat)\/∃t,o= .ret (.go t)/\(Rdr (m+9300) ⟨t.1,t.2.1⟩/\t.2.2.1.length=160/\LH t.2.2.2)):=by
 obtain⟨b,p,ws,gs,a5,a6,a7,a8,a9,a10,a11,a12,a13,a14,a15,a16,a17,mem,a19,a20,k⟩:=s;obtain⟨k0,k1,R,hw,hg,hmem⟩:=hs;simp only at k0 k1 R hw hg hmem;unfold nJ;refine Ex.cond (λhk=>?_) λhk=>?_
 · have hk:0<k:=of_decide_eq_true hk
   refine Ex.join (P:=λs:S19=>Rdr (m+3100*(3-k)+3100) ⟨s.1,s.2.1⟩/\s.2.2.1.length=160/\LH s.2.2.2.1/\s.2.2.2.2.2.2.2.2.2.2.2.2.2.2.2.2.2.1.length=64) ?_ λs ⟨R1,h1,h2,h3⟩=>?_;{refine Ex.bind (aSd R (by omega) (by omega)) λv ⟨R2,t2,l2⟩=>?_;have l2:=l2 (by omega);refine Ex.join (Ex.loopv (λs:List Int×Int×List Int×Int=>0<=s.2.2.2/\s.2.2.2<=8/\Rdr (m+3100*(3-k)+3000+2*s.2.2.2) ⟨s.1,s.2.1⟩/\s.2.2.1.length=64) (λs=>8-s.2.2.2.toNat) (λt:List Int×Int×List Int=>Rdr (m+3100*(3-k)+3000+16) ⟨t.1,t.2.1⟩/\t.2.2.length=64) ⟨by simp,by simp,R2.up (by simp),l2⟩ (bDt (by omega) (by omega) hmem)) λs ⟨R3,h3⟩=>?_;unfold tP;have hsb:SmallB (DBare.mk v.2.C s.2.2 v.2.In v.2.Out):=⟨t2.small.c,by simp only[h3];omega,t2.small.i,t2.small.o⟩;rw[aWf (hg.host hw) hsb,oB];refine Ex.cond (λhb=>?_) λ_=>Ex.ret ⟨_,rfl,R3.up (by omega),hw,hg,h3⟩;obtain⟨q1,q2⟩:=bFv hb hsb hg;exact Ex.ret ⟨_,rfl,R3.up (by omega),q1,q2,h3⟩}
   · unfold tK
     refine Ex.ret (.inl ⟨_,rfl,⟨?_,?_,?_,h1,h2,.inr h3⟩,?_⟩);all_goals simp only[aD (z:=k-1) (by omega) (by omega)]
     {omega};{omega};{exact R1.up (by omega)};{omega}
 {have hk:¬0<k:=of_decide_eq_false hk;exact Ex.ret (.inr ⟨_,rfl,R.up (by omega),hw,hg⟩)}
theorem aXx{m:Int}(hm:m<=900000)(h0:0<=m)(s:List Int×Int×List DGuest×Int)(hs:0<=s.2.2.2/\s.2.2.2<=3/\Rdr (m+5*(3-s.2.2.2)) ⟨s.1,s.2.1⟩/\LH s.2.2.1):
 Ex (nG s) (λo=>(∃s',o= .next s'/\(0<=s'.2.2.2/\s'.2.2.2<=3/\Rdr (m+5*(3-s'.2.2.2)) ⟨s'.1,s'.2.1⟩/\LH s'.2.2.1)/\s'.2.2.2.toNat<s.2.2.2.toNat)\/∃t,o= .ret (.go t)/\(Rdr (m+15) ⟨t.1,t.2.1⟩/\LH t.2.2)):=by
 obtain⟨b,p,gs,k⟩:=s;obtain⟨k0,k1,R,hg⟩:=hs;simp only at k0 k1 R hg;have h3:=hg.three;unfold nG;refine Ex.cond (λhk=>?_) λhk=>?_
 · have hk:0<k:=of_decide_eq_true hk
   refine Ex.join (P:=λs:List Int×Int×List DGuest=>Rdr (m+5*(3-k)+5) ⟨s.1,s.2.1⟩/\LH s.2.2) ?_ λs ⟨R1,h1⟩=>?_
   · refine Ex.bind (aL R (by omega) (by omega)) λv12 ⟨R12,a12,b12⟩=>?_
     refine Ex.bind (aL R12 (by omega) (by omega)) λv13 ⟨R13,a13,b13⟩=>?_;refine Ex.bind (aL R13 (by omega) (by omega)) λv14 ⟨R14,a14,b14⟩=>?_;have lA:=hg.get (i:=v12.2.toNat) (by omega);have lB:=hg.get (i:=v13.2.toNat) (by omega);have gA:(0:Int)<=v12.2/\v12.2<((gs.length:Nat):Int):=⟨a12,by omega⟩;have gB:(0:Int)<=v13.2/\v13.2<((gs.length:Nat):Int):=⟨a13,by omega⟩;refine Ex.grd gA (Ex.cond (λhA=>?_) λ_=>Ex.ret ⟨_,rfl,R14.up (by omega),hg⟩);refine Ex.grd gB (Ex.cond (λhB=>?_) λ_=>Ex.ret ⟨_,rfl,R14.up (by omega),hg⟩);have pA:=lA.pages hA;have pB:=lB.pages hB;have gP:(0:Int)<=v14.2/\v14.2<(((gs.getD v12.2.toNat default).Pages.length:Nat):Int):=⟨a14,by omega⟩;refine Ex.grd gA (Ex.grd gP (Ex.cond (λ_=>?_) λ_=>Ex.ret ⟨_,rfl,R14.up (by omega),hg⟩));refine Ex.grd gA (Ex.grd gP (Ex.grd gB (Ex.bind (aL R14 (by omega) (by omega)) λv15 ⟨R15,a15,b15⟩=>?_)));generalize hx:(DGuest.mk (gs.getD v12.2.toNat default).Live (gs.getD v12.2.toNat default).C ((gs.getD v12.2.toNat default).Pages.set v14.2.toNat (DSlot.mk ((gs.getD v12.2.toNat default).Pages.getD v14.2.toNat default).Frame false ((gs.getD v12.2.toNat default).Pages.getD v14.2.toNat default).Dirty)) (gs.getD v12.2.toNat default).In (gs.getD v12.2.toNat default).Out)=x;have lx:LG x:=(by subst hx;exact⟨⟨⟨lA.small.c.regs⟩,by simpa only[lS]using lA.small.pages,lA.small.i,lA.small.o⟩,λ_=>by simpa only[lS]using pA⟩);have xl:x.Live=true:=(by subst hx;exact hA);have xp:x.Pages.length=(gs.getD v12.2.toNat default).Pages.length:=(by subst hx;exact lS);have gP2:(0:Int)<=v14.2/\v14.2<((((gs.set v12.2.toNat x).getD v12.2.toNat default).Pages.length:Nat):Int):=(by rw[bB (by rw[lS];omega),List.getElem_set_self,xp];exact gP);refine Ex.grd gA (Ex.grd gP2 (Ex.bind (aL R15 (by omega) (by omega)) λv16 ⟨R16,a16,b16⟩=>?_));have hg2:=hg.set (i:=v12.2.toNat) lx;have lB2:=hg2.get (i:=v13.2.toNat) (by omega)
     have hB2:((gs.set v12.2.toNat x).getD v13.2.toNat default).Live=true:=by
      by_cases e:v12.2.toNat=v13.2.toNat
      {rw[e];rw[bB (by rw[lS];omega),List.getElem_set_self];exact xl};{rw[bB (by rw[lS];omega),List.getElem_set_ne e,<-bB];exact hB}
     have pB2:=lB2.pages hB2;have gQ:(0:Int)<=v15.2/\v15.2<((((gs.set v12.2.toNat x).getD v13.2.toNat default).Pages.length:Nat):Int):=⟨a15,by omega⟩;refine Ex.grd gQ (Ex.ret ⟨_,rfl,R16.up (by omega),?_⟩);exact hg2.set ⟨⟨⟨lB2.small.c.regs⟩,by simpa only[lS]using lB2.small.pages,lB2.small.i,lB2.small.o⟩,λ_=>by simpa only[lS]using pB2⟩
   · unfold uA
     refine Ex.ret (.inl ⟨_,rfl,⟨?_,?_,?_,h1⟩,?_⟩);all_goals simp only[aD (z:=k-1) (by omega) (by omega)]
     {omega};{omega};{exact R1.up (by omega)};{omega}
 {have hk:¬0<k:=of_decide_eq_false hk;exact Ex.ret (.inr ⟨_,rfl,R.up (by omega),hg⟩)}
theorem aZb{m n:Int}{r:Dl20Rd}(R:Rdr m r)(h0:0<=m)(hm:m<=500000):Ex (kX r n) (λv=>Rdr (m+12000) v.1/\SmallH v.2):=by unfold kX;refine Ex.bind (P:=λv:DHost=>v.Words.length=160/\LH v.Guests) ⟨_,rfl,by simp,by simp,λg hg=>?_⟩ λv1 ⟨w1,g1⟩=>?_;{have:=List.eq_of_mem_replicate (show g∈List.replicate 3 M.noGuest from hg);rw[this];exact⟨⟨⟨by decide⟩,by decide,by decide,by decide⟩,λh=>by cases h⟩};refine Ex.join (Ex.loopv (λs:List Int×Int×List Int×Int=>0<=s.2.2.2/\s.2.2.2<=160/\Rdr (m+3*s.2.2.2) ⟨s.1,s.2.1⟩/\s.2.2.1.length=160) (λs=>160-s.2.2.2.toNat) (λt:List Int×Int×List Int=>Rdr (m+480) ⟨t.1,t.2.1⟩/\t.2.2.length=160) ⟨by simp,by simp,R.up (by simp),w1⟩ (bBj (by omega) h0)) λs2 ⟨R2,w2⟩=>?_;unfold uO;refine Ex.join (Ex.bind (aL R2 (by omega) (by omega)) λv17 ⟨R17,a17,b17⟩=>Ex.loopv (λs:S18=>0<=s.2.2.2.2.2.2.2.2.2.2.2.2.2.2.2.2.2.2.2.2/\s.2.2.2.2.2.2.2.2.2.2.2.2.2.2.2.2.2.2.2.2<=3/\Rdr (m+481+3100*(3-s.2.2.2.2.2.2.2.2.2.2.2.2.2.2.2.2.2.2.2.2)) ⟨s.1,s.2.1⟩/\s.2.2.1.length=160/\LH s.2.2.2.1/\(s.2.2.2.2.2.2.2.2.2.2.2.2.2.2.2.2.2.1.length=0\/s.2.2.2.2.2.2.2.2.2.2.2.2.2.2.2.2.2.1.length=64)) (λs=>s.2.2.2.2.2.2.2.2.2.2.2.2.2.2.2.2.2.2.2.2.toNat) (λt:List Int×Int×List Int×List DGuest=>Rdr (m+481+9300) ⟨t.1,t.2.1⟩/\t.2.2.1.length=160/\LH t.2.2.2) (by simp only[aD (z:=1+v17.2) (by omega) (by omega)];exact⟨by omega,by omega,R17.up (by omega),w2,g1,.inl rfl⟩) (bBd (by omega) (by omega))) λs3 ⟨R3,w3,g3⟩=>?_;unfold uY;refine Ex.join (Ex.bind (aL R3 (by omega) (by omega)) λv9 ⟨R9,a9,b9⟩=>Ex.loopv (λs:List Int×Int×List DGuest×Int=>0<=s.2.2.2/\s.2.2.2<=3/\Rdr (m+481+9300+1+5*(3-s.2.2.2)) ⟨s.1,s.2.1⟩/\LH s.2.2.1) (λs=>s.2.2.2.toNat) (λt:List Int×Int×List DGuest=>Rdr (m+481+9300+1+15) ⟨t.1,t.2.1⟩/\LH t.2.2) ⟨a9,by simp only;omega,R9.up (by simp only;omega),g3⟩ (aXx (by omega) (by omega))) λs4 ⟨R4,g4⟩=>?_;have t4:=g4.three;unfold vA;refine Ex.join (P:=λs:List Int×List Int×Int×List DGuest=>Rdr (m+12000) ⟨s.2.1,s.2.2.1⟩/\SmallH ⟨s.1,s.2.2.2⟩) ?_ λs5 h5=>Ex.ret h5;refine Ex.bind (aYl R4 (by omega)) λv6 R6=>?_;refine Ex.cond (λ_=>?_) λ_=>Ex.ret ⟨_,rfl,R6.up (by omega),g4.host w3⟩;refine Ex.bind (aL R6 (by omega) (by omega)) λv7 ⟨R7,a7,b7⟩=>?_;refine Ex.cond (λ_=>?_) λ_=>?_;{refine Ex.bind (aL R7 (by omega) (by omega)) λv8 ⟨R8,a8,b8⟩=>?_;exact Ex.grd ⟨a8,by omega⟩ (Ex.ret ⟨_,rfl,R8.up (by omega),g4.host (by simpa only[lS]using w3)⟩)};{refine Ex.cond (λ_=>?_) λ_=>?_;{refine Ex.grd ⟨by omega,by omega,by omega⟩ (Ex.ret ⟨_,rfl,R7.up (by omega),⟨by simp only[w3];omega,by simp only[List.length_take];omega,λg hg=>?_⟩⟩);exact(g4.all g (List.mem_of_mem_take hg)).small};{refine Ex.cond (λ_=>?_) λ_=>?_;{exact Ex.grd ⟨by omega,by omega⟩ (Ex.ret ⟨_,rfl,R7.up (by omega),(g4.set ⟨⟨⟨by simp⟩,by simp,by simp,by simp⟩,λh=>by cases h⟩).host w3⟩)};{have l0:=g4.get (i:=0) (by omega);refine Ex.grd ⟨by omega,by omega⟩ (Ex.ret ⟨_,rfl,R7.up (by omega),⟨by simp only[w3];omega,by simp only[lS];omega,λg hg=>?_⟩⟩);rcases List.mem_or_eq_of_mem_set hg with hg|rfl;{exact(g4.all g hg).small};{exact⟨⟨l0.small.c.regs⟩,by simp,l0.small.i,l0.small.o⟩}}}}
theorem iY{xs ys:List Int}(h:xs.length<=9223372036854775806):cM xs ys=some (decide (xs=ys)):=by
 unfold cM;by_cases hl:xs.length=ys.length
 · have key:∀k:Int,(0<=k/\k<=(xs.length:Int))->iter (eP xs ys) k=some (.ret (bif decide (xs.drop k.toNat=ys.drop k.toNat)then .go ()else .out false)):=by
    refine aRo _ (λk=>xs.length-k.toNat) _ ?_
    rintro k ⟨h0,h1⟩
    by_cases hk:k<xs.length
    · have e1:xs.drop k.toNat=xs.getD k.toNat default::xs.drop (k+1).toNat:=by
       rw[bB (by omega),show(k+1).toNat=k.toNat+1 by omega];exact List.drop_eq_getElem_cons (by omega)
      have e2:ys.drop k.toNat=ys.getD k.toNat default::ys.drop (k+1).toNat:=(by rw[bB (by omega),show(k+1).toNat=k.toNat+1 by omega];exact List.drop_eq_getElem_cons (by omega));have es:eP xs ys k=cond (!decide (xs.getD k.toNat default=ys.getD k.toNat default)) (some (.ret (.out false))) (some (.next (k+1))):=(by unfold eP;rw[dT hk,cTq,aE ⟨h0,hk⟩,aE ⟨h0,by omega⟩,aD (by omega) (by omega)]);by_cases he:xs.getD k.toNat default=ys.getD k.toNat default;{refine .inl ⟨k+1,by rw[es,dT he];rfl,⟨by omega,by omega⟩,by omega,?_⟩;rw[e1,e2,he];simp};{refine .inr ⟨λs'=>by rw[es,dF he];simp,?_⟩;rw[es,dF he,e1,e2];have:decide (xs.getD k.toNat default::xs.drop (k+1).toNat=ys.getD k.toNat default::ys.drop (k+1).toNat)=false:=dF λe=>he (List.cons.inj e).1;rw[this];rfl}
    {have hk2:k=xs.length:=(by omega);subst hk2;refine .inr ⟨?_,?_⟩;{intro s';simp[eP]};{simp[eP,hl]}}
   rw[key 0 ⟨by omega,by omega⟩];have:decide ((xs.length:Int)=(ys.length:Int))=true:=(by simp[hl]);rw[this];by_cases e:xs=ys;{subst e;simp[LO.val,JO.run,sY]};{simp[e,LO.val,JO.run]}
 {have:decide ((xs.length:Int)=(ys.length:Int))=false:=(by simp;omega);rw[this];have e:xs≠ys:=λe=>hl (by rw[e]);simp[e]}
theorem aBx{a:DCore}(h:a.Regs.length<=9223372036854775806):jT a a=some true:=by unfold jT;rw[iY h];simp
theorem uK{a:DBare}(h:SmallB a):hG a a=some true:=by have:=h.c.regs;have:=h.mem;have:=h.i;have:=h.o;unfold hG;rw[aBx (by omega),iY (by omega),iY (by omega),iY (by omega)];simp
theorem aLt{g:DGuest}(h:SmallG g):jD g g=some true:=by
 have:=h.c.regs;have:=h.pages;have:=h.i;have:=h.o;unfold jD;rw[aBx (by omega),iY (by omega),iY (by omega)];simp only[beq_self_eq_true,bT,cFq,oB,decide_true]
 have key:=cN (n:=g.Pages.length) (step:=jM g g) (λi=>(i:Int)) (λ_=>true) (JO.go ()) (.out false) (λi hi _=>by
  simp only[jM,iT];rw[dT (p:=(i:Int)<_) (by omega),cTq,aE ⟨by omega,by omega⟩,aE ⟨by omega,by omega⟩,aD (by omega) (by omega)];simp only[beq_self_eq_true,decide_true,Bool.and_self,bT,cFq,cTq];rfl) (λ_=>by
  simp only[jM];rw[dF (by omega),cFq])
 have e:(List.range g.Pages.length).all (λ_=>true)=true:=(by simp);rw[e]at key;rw[show(0:Int)=((0:Nat):Int)from rfl,key];rfl
theorem uH{h:DHost}(hs:SmallH h):gZ h h=some true:=by
 have:=hs.words;have:=hs.guests;unfold gZ;rw[iY (by omega)];simp only[bT,cFq,oB,decide_true]
 have key:=cN (n:=h.Guests.length) (step:=jV h h) (λi=>(i:Int)) (λ_=>true) (JO.go ()) (.out false) (λi hi _=>by
  simp only[jV,iT];rw[dT (p:=(i:Int)<_) (by omega),cTq,aE ⟨by omega,by omega⟩,aE ⟨by omega,by omega⟩];show Option.bind (jD (h.Guests.getD i default) (h.Guests.getD i default)) _=_;rw[aLt (hs.all _ (dN hi)),oB,aD (by omega) (by omega)];rfl) (λ_=>by
  simp only[jV];rw[dF (by omega),cFq])
 have e:(List.range h.Guests.length).all (λ_=>true)=true:=(by simp);rw[e]at key;rw[show(0:Int)=((0:Nat):Int)from rfl,key];rfl
theorem aIh:SmallG M.noGuest:=⟨⟨by decide⟩,by decide,by decide,by decide⟩
theorem slots_set:∀{gs:List DGuest} {i:Nat},(M.slots (gs.set i M.noGuest)).Sublist (M.slots gs)
 |[],i=>by simp[M.slots]
 |g::gs,0=>by simp only[List.set_cons_zero,M.slots,List.flatMap_cons,M.noGuest,List.nil_append];exact List.sublist_append_right _ _
 |g::gs,i+1=>by simp only[List.set_cons_succ,M.slots,List.flatMap_cons];exact List.Sublist.append (List.Sublist.refl _) slots_set
theorem bDx{gs:List DGuest}{i:Nat}{f:Int}:M.many (M.slots (gs.set i M.noGuest)) f<=M.many (M.slots gs) f:=List.Sublist.countP_le slots_set
theorem aYr:M.guestOk M.noGuest=true:=by unfold M.guestOk;rw[show M.noGuest.Live=false from rfl,cFq,dT rfl]
theorem bGb{h:DHost}{i:Nat}(hk:HOk h):HOk ⟨h.Words,h.Guests.set i M.noGuest⟩:=by refine⟨hk.len,hk.words,by simpa using hk.three,?_,?_⟩;{rw[List.all_eq_true];intro x hx;rcases List.mem_or_eq_of_mem_set hx with hx|rfl;{exact List.all_eq_true.1 hk.all x hx};{exact aYr}};{have ha:=hk.alone;simp only[M.alone,List.all_eq_true,Bool.or_eq_true,Bool.not_eq_true',decide_eq_true_eq]at ha ⊢;intro s hs;rcases ha s (slots_set.subset hs)with h1|h1;{exact .inl h1};{exact .inr (Nat.le_trans bDx h1)}}
theorem aIr{h:DHost}{g:Int}(hs:SmallH h):SmallH (M.hostDrop h g).1:=by unfold M.hostDrop;(cases M.there h g with|false=>exact⟨by simp,by simp,by simp⟩|true=>refine⟨hs.words,by simpa using hs.guests,λx hx=>?_⟩;rcases List.mem_or_eq_of_mem_set hx with hx|rfl;{exact hs.all x hx};{exact aIh})
theorem aBm{a b:DHost}{but:Int}(ha:SmallH a)(hb:SmallH b)(hv:∀k:Nat,k<3->(k:Int)≠but->M.hostView b (k:Int)=M.hostView a (k:Int)):fR a b but=some true:=by
 unfold fR
 have key:=cN (n:=3) (step:=jL a b but) (λk=>(k:Int)) (λ_=>true) (JO.go ()) (.out false) (λk hk _=>by
  simp only[jL];rw[dT (p:=(k:Int)<3) (by omega),cTq,lF ha,oB,lF hb,oB];by_cases e:(k:Int)=but;{rw[dT e];simp only[bT,cFq,oB,JO.run,mI,cTq];rw[aD (by omega) (by omega)];rfl}
  · rw[dF e,hv k hk e,uK (zQ ha)];simp only[beq_self_eq_true,bT,bF,cFq,oB,JO.run,mI,cTq];rw[aD (by omega) (by omega)];rfl) (λ_=>by
  simp only[jL];rfl)
 rw[show(List.range 3).all (λ_=>true)=true by simp,cTq]at key;rw[show(0:Int)=((0:Nat):Int)from rfl,key];rfl
theorem yH{h:DHost}{g:Int}(ht:M.there h g=true):M.hostOk (M.hostDrop h g).1=true:=by have e:(M.hostDrop h g).1=⟨h.Words,h.Guests.set g.toNat M.noGuest⟩:=(by unfold M.hostDrop;rw[ht];rfl);rw[e];exact cK.2 (bGb (lD.1 ht).1)
theorem bKg{m:Int}{r:Dl20Rd}(R:Rdr m r)(h0:0<=m)(hm:m<=400000):Ex (pG r) (λv=>Rdr (m+12100) v.1/\SmallH v.2):=by unfold pG;refine Ex.bind (aZb R h0 (by omega)) λv1 ⟨R1,hs⟩=>?_;refine Ex.join (P:=λs:List Int×Int×List DGuest=>Rdr (m+12100) ⟨s.1,s.2.1⟩/\SmallH ⟨v1.2.Words,s.2.2⟩) ?_ λs h=>Ex.ret h;refine Ex.cond (λhc=>?_) λ_=>Ex.ret ⟨_,rfl,R1.up (by omega),hs⟩;have h3:=of_decide_eq_true hc;refine Ex.grd ⟨by omega,by omega⟩ (Ex.cond (λ_=>?_) λ_=>Ex.ret ⟨_,rfl,R1.up (by omega),hs⟩);refine Ex.bind (aL R1 (by omega) (by omega)) λv3 ⟨R3,_,_⟩=>?_;refine Ex.cond (λ_=>?_) λ_=>Ex.ret ⟨_,rfl,R3.up (by omega),hs⟩;refine Ex.grd ⟨by omega,by omega⟩ (Ex.ret ⟨_,rfl,R3.up (by omega),?_⟩);refine⟨hs.words,by rw[lS];exact hs.guests,λy hy=>?_⟩;rcases List.mem_or_eq_of_mem_set hy with hy|rfl;{exact hs.all y hy};{exact aIh}
theorem bDh{m:Int}{r:Dl20Rd}{h:DHost}(R:Rdr m r)(hm:m<=900000):Ex (kW r h) (λv=>Rdr (m+3) v.1):=by unfold kW;refine Ex.bind (aL R (by omega) (by omega)) λv1 ⟨R1,a1,b1⟩=>?_;refine Ex.join (P:=λs:List Int×Int×Int=>Rdr (m+2) ⟨s.1,s.2.1⟩) ?_ λs R2=>?_;{refine Ex.cond (λhc=>?_) λ_=>Ex.ret ⟨_,rfl,R1.up (by omega)⟩;have:=of_decide_eq_true hc;refine Ex.grd ⟨a1,by omega⟩ (Ex.cond (λ_=>?_) λ_=>Ex.ret ⟨_,rfl,R1.up (by omega)⟩);refine Ex.bind (aL R1 (by omega) (by omega)) λv4 ⟨R4,a4,b4⟩=>?_;exact Ex.cond (λ_=>Ex.ret ⟨_,rfl,R4.up (by omega)⟩) λ_=>Ex.ret ⟨_,rfl,R4.up (by omega)⟩};{unfold xT;exact Ex.bind (aL R2 (by omega) (by omega)) λv3 ⟨R3,a3,b3⟩=>Ex.ret (R3.up (by omega))}
theorem aSr{xs:List Int}(hx:∀x∈xs,0<=x/\x<=255):Ex (iR xs) (λv=>SmallH v.1):=by unfold iR;refine Ex.bind (aQv hx) λr R=>?_;refine Ex.bind (bKg R (by omega) (by omega)) λv2 ⟨R2,hs⟩=>?_;exact Ex.bind (bDh R2 (by omega)) λv3 _=>Ex.ret hs
theorem aNf{xs:List Int}(hx:∀x∈xs,0<=x/\x<=255):Ex (gS xs) (λb=>b=true):=by have al:Ex (Option.bind eV λv=>some v) (λb=>b=true):=Ex.bind (aKr (Q:=λb=>b=true) rfl) λb hb=>Ex.ret hb;unfold gS;refine Ex.cond (λ_=>Ex.ret rfl) λ_=>?_;refine Ex.bind (aSr hx) λv hs=>?_;obtain⟨h,g⟩:=v;have hs:SmallH h:=hs;have hz:=aSs (g:=g) hs;dsimp only;rw[aSx hs,oB,aSt hs,oB,beq_self_eq_true,bT,cFq,dT rfl,bT,cFq,uH hz,oB,bT,cFq];rcases aFx (h:=h) (g:=g)with e|e;{rw[e];exact al};{obtain⟨x,a,c,e⟩:=e hs;have cs:=c.small hs;rw[e];simp only[bT,cFq];rw[lF cs,oB,lF cs,oB,vZ cs,oB,c.hostOk,cTq,c.view_g hs,c.view_a hs,uK (zQ hs),oB,cTq,aBm hs cs (λk h3 hn=>c.view_k hs h3 (by omega)),oB,cTq,vP cs,oB,vP hs,oB,c.free,iY (by have:=aOn (h:=h);omega),dT rfl];exact Ex.ret rfl}
theorem aNd{xs:List Int}(hx:∀x∈xs,0<=x/\x<=255):gS xs=some true:=by obtain⟨_,h,rfl⟩:=aNf hx;exact h
end Go.Proofs.Ytobbmlnagjhofaa
