/- The plain functions: what they answer. -/
import Derived.Test.YtkjabgefacfpfaaZY
import Derived.Test.YtkjabgefacfpfaaWFTW1
import Derived.Laws.Bits64
namespace Go.Proofs.Ytkjabgefacfpfaa
set_option linter.all false
theorem oB.{u,v} {α:Type u} {β:Type v} (a:α) (f:α->Option β):(some a).bind f=f a:=rfl
theorem dF{p:Prop}[Decidable p](h:¬p):decide p=false:=decide_eq_false h
theorem dT{p:Prop}[Decidable p](h:p):decide p=true:=decide_eq_true h
theorem cFq.{u} {α:Sort u} (a b:α):cond false a b=b:=rfl
theorem cTq.{u} {α:Sort u} (a b:α):cond true a b=a:=rfl
theorem bT:(!true)=false:=rfl
theorem bF:(!false)=true:=rfl
theorem bA(a b:Bool):((a&&b)=true)=(a=true/\b=true):=Bool.and_eq_true a b
theorem iT(n:Nat):Int.toNat (n:Int)=n:=rfl
theorem iM{a b:Int}(h:0<=a):a.tmod b=a%b:=Int.tmod_eq_emod_of_nonneg h
theorem lS.{u} {α:Type u} {xs:List α} {i:Nat} {a:α}:(xs.set i a).length=xs.length:=List.length_set
theorem gH{α:Type}[Inhabited α]{xs:List α}{i:Nat}(h:i<xs.length):xs.getD i default=xs[i]:=by simp[List.getD,h]
namespace M
def inR(lo hi n:Int):Bool:=decide (lo<=n)&&decide (n<=hi)
def wordOk(n:Int):Bool:=inR 0 4095 n
def wordsOk(xs:List Int):Bool:=xs.all wordOk
def memOk(xs:List Int):Bool:=decide (xs.length=64)&&wordsOk xs
theorem inR_iff{lo hi n:Int}:inR lo hi n=true↔lo<=n/\n<=hi:=by simp[inR]
end M
theorem bFe{b:Bool}{x:Option Bool}{y:Bool}(h:x=some y):(cond b x (some false))=some (b&&y):=by cases b<;>simp[h]
theorem pD{b y:Bool}:(cond b (some y) (some false))=some (b&&y):=by cases b<;>rfl
theorem aCs(n:Int):eE n=some (M.wordOk n):=by unfold eE;rw[pD];rfl
theorem oC(n lo hi:Int):bM n lo hi=some (M.inR lo hi n):=by unfold bM;rw[pD];rfl
theorem pJ(n:Int):eC n=some (M.wordOk n):=by unfold eC;rw[oC];rfl
theorem aZr{a b:Int}:decide (a<b+1)=decide (a<=b):=by rw[decide_eq_decide];omega
theorem pK {T:Type} [Inhabited T] {xs:List T} {Pf:T->Option Bool} {p:T->Bool} (hP:∀x,Pf x=some (p x)) (hl:xs.length<=9223372036854775806) (step:Int->Option (LO Int (JO Unit Bool)))
 (hs:∀k,step k=cond (decide (k<((List.length xs:Nat):Int))) (grd ((0:Int)<=k/\k<((List.length xs:Nat):Int)) (Option.bind (Pf (List.getD xs (Int.toNat k) default)) λv=>cond (!v) (some (.ret (.out false))) (some (.next (w64 (k+(1:Int))))))) (some (.ret (.go ())))):
 iter step 0=some (.ret (bif xs.all p then .go ()else .out false)):=by
 have key:∀k:Int,(0<=k/\k<=(xs.length:Int))->iter step k=some (.ret (bif (xs.drop k.toNat).all p then .go ()else .out false)):=by
  refine aWy _ (λk=>xs.length-k.toNat) _ ?_
  rintro k ⟨h0,h1⟩
  by_cases hk:k<xs.length
  · have e1:xs.drop k.toNat=xs.getD k.toNat default::xs.drop (k+1).toNat:=by
     rw[gH (by omega),show(k+1).toNat=k.toNat+1 by omega];exact List.drop_eq_getElem_cons (by omega)
    have hst:step k=cond (!p (xs.getD k.toNat default)) (some (.ret (.out false))) (some (.next (k+1))):=(by rw[hs,dT hk,cTq,aJ ⟨h0,hk⟩,hP,aF (by omega) (by omega)];rfl);(cases hp:p (xs.getD k.toNat default)with|true=>refine .inl ⟨k+1,by rw[hst,hp];rfl,⟨by omega,by omega⟩,by omega,?_⟩;rw[e1,List.all_cons,hp,Bool.true_and]|false=>refine .inr ⟨λs'=>by rw[hst,hp];simp,?_⟩;rw[hst,hp,e1,List.all_cons,hp];rfl)
  {have hk2:k=xs.length:=(by omega);have hf:decide (k<((List.length xs:Nat):Int))=false:=(by simp;omega);refine .inr ⟨λs'=>by rw[hs,hf];simp,?_⟩;rw[hs,hf,hk2];simp}
 simpa using key 0 ⟨by omega,by omega⟩
theorem zD{xs:List Int}(h:xs.length<=9223372036854775806):fM xs=some (M.wordsOk xs):=by unfold fM;rw[pK aCs h (rV xs) (λk=>rfl)];simp only[M.wordsOk];cases xs.all M.wordOk<;>rfl
theorem bAd{xs:List Int}(h:xs.length<=9223372036854775806):oJ xs=some (M.memOk xs):=by unfold oJ;rw[pK pJ h (uD xs) (λk=>rfl)];simp only[M.memOk,M.wordsOk];cases xs.all M.wordOk;{simp[LO.val,JO.run]};{simp only[LO.val,JO.run,oB,uO,cTq,Bool.and_true];congr 1;rw[decide_eq_decide];omega}
theorem aWg{xs:List Int}(h:M.memOk xs=true):xs.length=64:=by simp only[M.memOk,bA,decide_eq_true_eq]at h;exact h.1
theorem aNv{xs:List Int}(h:M.wordsOk xs=true){i:Nat}(hi:i<xs.length):0<=xs.getD i default/\xs.getD i default<=4095:=by rw[gH hi];exact M.inR_iff.1 (List.all_eq_true.1 h _ (List.getElem_mem hi))
section
variable {T σ S R : Type} [Inhabited T]
theorem nH {xs:List T} {step:S->Option (LO S R)} (enc:σ->Int->S) (p:T->Bool) (g:σ->T->σ) (fin:σ->R) (r:R) (Inv:Nat->σ->Prop)
 (hs:∀(i:Nat) x s,(i:Int)<(xs.length:Int)->x∈xs->xs.getD i default=x->Inv i s->step (enc s i)=some (bif p x then .next (enc (g s x) ((i:Int)+1))else .ret r)/\(p x=true->Inv (i+1) (g s x)))
 (he:∀s,Inv xs.length s->step (enc s xs.length)=some (.ret (fin s))) (s:σ) (hi:Inv 0 s):
 iter step (enc s 0)=some (.ret (bif xs.all p then fin (xs.foldl g s)else r))/\(xs.all p=true->Inv xs.length (xs.foldl g s)):=by
 have key:∀(suf pre:List T) (s:σ),xs=pre++suf->Inv pre.length s->iter step (enc s pre.length)=some (.ret (bif suf.all p then fin (suf.foldl g s)else r))/\(suf.all p=true->Inv xs.length (suf.foldl g s)):=by
  intro suf;induction suf with
  |nil=>intro pre s hx hi;rw[List.append_nil]at hx;subst hx;rw[fA,he s hi];exact⟨rfl,λ_=>hi⟩
  |cons x suf ih=>intro pre s hx hi;obtain⟨h1,h2⟩:=hs pre.length x s (by rw[hx];simp;omega) (by rw[hx];simp) (by rw[hx];simp[List.getD]) hi;rw[fA,h1];(cases hp:p x with|false=>simp[List.all_cons,hp]|true=>obtain⟨g1,g2⟩:=ih (pre++[x]) (g s x) (by rw[hx];simp) (by simpa using h2 hp);simp only[List.length_append,List.length_cons,List.length_nil,Nat.zero_add,Int.natCast_add]at g1;simp only[cTq,List.all_cons,hp,Bool.true_and,List.foldl_cons];exact⟨g1,g2⟩)
 simpa using key xs [] s rfl hi
theorem nQ {xs:List T} {step:S->Option (LO S R)} (enc:σ->Int->S) (g:σ->T->σ) (fin:σ->R) (Inv:Nat->σ->Prop)
 (hs:∀(i:Nat) x s,(i:Int)<(xs.length:Int)->x∈xs->xs.getD i default=x->Inv i s->step (enc s i)=some (.next (enc (g s x) ((i:Int)+1)))/\Inv (i+1) (g s x))
 (he:∀s,Inv xs.length s->step (enc s xs.length)=some (.ret (fin s))) (s:σ) (hi:Inv 0 s):
 iter step (enc s 0)=some (.ret (fin (xs.foldl g s)))/\Inv xs.length (xs.foldl g s):=by
 have h:=nH (p:=λ_=>true) enc g fin (fin s) Inv (λi x s h1 h2 h3 h4=>⟨(hs i x s h1 h2 h3 h4).1,λ_=>(hs i x s h1 h2 h3 h4).2⟩) he s hi;have e:xs.all (λ_=>true)=true:=(by simp);rw[e]at h;exact⟨h.1,h.2 rfl⟩
theorem aGk {n:Nat} {step:S->Option (LO S R)} (enc:σ->Int->S) (g:σ->Nat->σ) (fin:σ->R) (Inv:Nat->σ->Prop)
 (hs:∀(i:Nat) s,i<n->Inv i s->step (enc s i)=some (.next (enc (g s i) ((i:Int)+1)))/\Inv (i+1) (g s i))
 (he:∀s,Inv n s->step (enc s n)=some (.ret (fin s))) (s:σ) (hi:Inv 0 s):
 iter step (enc s 0)=some (.ret (fin ((List.range n).foldl g s)))/\Inv n ((List.range n).foldl g s):=by
 have h:=nQ (xs:=List.range n) enc g fin Inv (λi x s h1 h2 h3 h4=>by have hi:i<n:=(by simpa using h1);have:x=i:=(by rw[<-h3];simp[List.getD,hi]);subst this;exact hs x s hi h4) (by simpa using he) s hi;simpa using h
theorem aWe {n:Nat} {step:S->Option (LO S R)} (enc:Int->S) (p:Nat->Bool) (a r:R)
 (hs:∀(i:Nat),i<n->step (enc i)=some (bif p i then .next (enc ((i:Int)+1))else .ret r))
 (he:step (enc n)=some (.ret a)):
 iter step (enc 0)=some (.ret (bif (List.range n).all p then a else r)):=by
 have h:=nH (xs:=List.range n) (σ:=Unit) (λ_ k=>enc k) p (λ_ _=>()) (λ_=>a) r (λ_ _=>True) (λi x s h1 h2 h3 h4=>by have hi:i<n:=(by simpa using h1);have:x=i:=(by rw[<-h3];simp[List.getD,hi]);subst this;exact⟨hs x hi,λ_=>trivial⟩) (λs _=>by simpa using he) () trivial;exact h.1
theorem kX {n:Nat} {step:S->Option (LO S R)} (st:Nat->S) (ok:Nat->Bool) (a r:R)
 (hs:∀(i:Nat),i<n->(∀j,j<i->ok j=true)->step (st i)=some (bif ok i then .next (st (i+1))else .ret r))
 (he:(∀j,j<n->ok j=true)->step (st n)=some (.ret a)):
 iter step (st 0)=some (.ret (bif (List.range n).all ok then a else r)):=by
 have key:∀m i,i+m=n->(∀j,j<i->ok j=true)->iter step (st i)=some (.ret (bif (List.range n).all ok then a else r)):=by
  intro m;induction m with
  |zero=>intro i hi ho;have:i=n:=(by omega);subst this;have e:(List.range i).all ok=true:=(by simp only[List.all_eq_true,List.mem_range];exact ho);rw[fA,he ho,e];rfl
  |succ m ih=>intro i hi ho;rw[fA,hs i (by omega) ho];(cases e:ok i with|true=>refine ih (i+1) (by omega) ?_;intro j hj;by_cases h:j=i;{rw[h,e]};{exact ho j (by omega)}|false=>have e2:(List.range n).all ok=false:=(by rw[List.all_eq_false];exact⟨i,by rw[List.mem_range];omega,by rw[e];simp⟩);rw[e2];rfl)
 exact key n 0 (by omega) λj hj=>by omega
end
theorem lN{α β σ:Type}{f:α->List β}{g:σ->β->σ}:∀{xs:List α} {s:σ},xs.foldl (λs x=>(f x).foldl g s) s=(xs.flatMap f).foldl g s
 |[],_=>rfl
 |x::xs,s=>by simp only[List.foldl_cons,List.flatMap_cons,List.foldl_append];exact lN
theorem uW(n:Int):bK n=some (M.inR 0 63 n):=by unfold bK;rw[pD,show(64:Int)=63+1 from rfl,aZr];rfl
theorem aLp(n:Int):jO n=some (M.inR 0 7 n):=by unfold jO;rw[pD,show(8:Int)=7+1 from rfl,aZr];rfl
theorem aYi(n:Int):jT n=some (M.inR (-1) 7 n):=by unfold jT;rw[aLp];by_cases h:n=-1;{subst h;rfl};{rw[dF h];show some (M.inR 0 7 n)=_;congr 1;simp only[M.inR];congr 1;rw[decide_eq_decide];omega}
noncomputable instance:DecidableEq DCore:=λa b=>Classical.propDecidable (a=b)
noncomputable instance:DecidableEq DBare:=λa b=>Classical.propDecidable (a=b)
namespace M
def coreOk(c:DCore):Bool:=decide (c.Regs.length=4)&&wordsOk c.Regs&&(inR 0 63 c.Pc&&inR 0 63 c.Vector&&inR 0 63 c.Saved&&inR 0 63 c.Bad)&&inR (-1) 7 c.Root&&inR 0 4 c.Cause&&wordOk c.Timer
def rowOk(xs:List Int):Bool:=decide (xs.length<=30)&&wordsOk xs
def bareOk(b:DBare):Bool:=coreOk b.C&&memOk b.Mem&&rowOk b.In&&rowOk b.Out
end M
theorem aOy{xs:List Int}(h:xs.length<=9223372036854775806):kR xs=some (M.rowOk xs):=by unfold kR;rw[zD h];show cond _ (some _) (some false)=_;rw[pD];simp only[M.rowOk];congr 2;rw[decide_eq_decide];omega
theorem aBd{xs:List Int}(h:xs.length<=9223372036854775806):cP xs 30=some (M.rowOk xs):=by unfold cP;rw[pK pJ h (mB xs) (λk=>rfl)];simp only[M.rowOk,M.wordsOk];cases xs.all M.wordOk;{simp[LO.val,JO.run]};{simp only[LO.val,JO.run,oB,mE,cTq,Bool.and_true];congr 1;rw[decide_eq_decide];omega}
theorem aWz{c:DCore}(h:c.Regs.length<=9223372036854775806):mO c=some (M.coreOk c):=by unfold mO;simp only[zD h,uW,aYi,aCs,oB];have e4:decide (((c.Regs.length:Nat):Int)=4)=decide (c.Regs.length=4):=(by rw[decide_eq_decide];omega);rw[e4];simp only[M.coreOk,M.inR];generalize decide (c.Regs.length=4)=b0;generalize M.wordsOk c.Regs=b1;generalize(decide (0<=c.Pc)&&decide (c.Pc<=63))=b2;generalize(decide (0<=c.Vector)&&decide (c.Vector<=63))=b3;generalize(decide (0<=c.Saved)&&decide (c.Saved<=63))=b4;generalize(decide (0<=c.Bad)&&decide (c.Bad<=63))=b5;generalize(decide (-1<=c.Root)&&decide (c.Root<=7))=b6;generalize decide (0<=c.Cause)=b7;generalize decide (c.Cause<=4)=b8;generalize M.wordOk c.Timer=b9;cases b0<;>cases b2<;>cases b3<;>cases b4<;>cases b7<;>cases b1<;>cases b5<;>cases b6<;>cases b8<;>rfl
theorem aMp{c:DCore}(h:c.Regs.length<=9223372036854775806):gF c=some (M.coreOk c):=by unfold gF;rw[pK pJ h (tN c) (λk=>rfl)];simp only[M.coreOk,M.wordsOk];cases c.Regs.all M.wordOk;{simp[LO.val,JO.run]};{simp only[LO.val,JO.run,oB,tP,cTq,Bool.and_true,oC,pJ];have e4:decide (((c.Regs.length:Nat):Int)=4)=decide (c.Regs.length=4):=(by rw[decide_eq_decide];omega);rw[e4];generalize decide (c.Regs.length=4)=b0;generalize M.inR 0 63 c.Pc=b2;generalize M.inR 0 63 c.Vector=b3;generalize M.inR 0 63 c.Saved=b4;generalize M.inR 0 63 c.Bad=b5;generalize M.inR (-1) 7 c.Root=b6;generalize M.inR 0 4 c.Cause=b7;generalize M.wordOk c.Timer=b9;cases b0<;>cases b2<;>cases b3<;>cases b4<;>cases b7<;>cases b5<;>cases b6<;>rfl}
structure SmallC (c : DCore) : Prop where
 regs:c.Regs.length<=1048576
structure SmallB (b : DBare) : Prop where
 c:SmallC b.C
 mem:b.Mem.length<=1048576
 i:b.In.length<=1048576
 o:b.Out.length<=1048576
theorem aYy{b:DBare}(h:SmallB b):mN b=some (M.bareOk b):=by have:=h.c.regs;have:=h.mem;have:=h.i;have:=h.o;unfold mN;simp only[aMp (show b.C.Regs.length<=9223372036854775806 by omega),bAd (show b.Mem.length<=9223372036854775806 by omega),aBd (show b.In.length<=9223372036854775806 by omega),aBd (show b.Out.length<=9223372036854775806 by omega),oB,M.bareOk];cases M.coreOk b.C<;>cases M.memOk b.Mem<;>cases M.rowOk b.In<;>rfl
noncomputable instance:DecidableEq DSlot:=λa b=>Classical.propDecidable (a=b)
noncomputable instance:DecidableEq DGuest:=λa b=>Classical.propDecidable (a=b)
noncomputable instance:DecidableEq DHost:=λa b=>Classical.propDecidable (a=b)
structure SmallG (g : DGuest) : Prop where
 c:SmallC g.C
 pages:g.Pages.length<=1048576
 i:g.In.length<=1048576
 o:g.Out.length<=1048576
structure SmallH (h : DHost) : Prop where
 words:h.Words.length<=1048576
 guests:h.Guests.length<=1048576
 all:∀g∈h.Guests,SmallG g
theorem xM{T:Type}[Inhabited T]{xs:List T}{k:Nat}(h:k<xs.length):xs.getD k default∈xs:=by rw[gH h];exact List.getElem_mem _
namespace M
def noCore:DCore:=⟨[],0,0,0,0,false,0,0,0,false,false,false,false⟩
def noGuest:DGuest:=⟨false,noCore,[],[],[]⟩
def slotOk(s:DSlot):Bool:=bif decide (s.Frame=-1)then !s.Write&&!s.Dirty else decide (0<=s.Frame)&&decide (s.Frame<20)
noncomputable def guestOk (g:DGuest):Bool:=bif g.Live then coreOk g.C&&(decide (g.Pages.length=8)&&g.Pages.all slotOk)&&rowOk g.In&&rowOk g.Out else decide (g=noGuest)
def slots(gs:List DGuest):List DSlot:=gs.flatMap (·.Pages)
def many(ss:List DSlot)(f:Int):Nat:=ss.countP λs=>decide (s.Frame=f)
def alone(ss:List DSlot):Bool:=ss.all λs=>!s.Write||decide (many ss s.Frame<=1)
def bump(xs:List Int)(s:DSlot):List Int:=bif decide (s.Frame=-1)then xs else xs.set s.Frame.toNat (xs.getD s.Frame.toNat default+1)
def takers(ss:List DSlot):List Int:=ss.foldl bump (List.replicate 20 0)
noncomputable def hostOk (h:DHost):Bool:=decide (h.Words.length=160)&&wordsOk h.Words&&(decide (h.Guests.length=3)&&h.Guests.all guestOk)&&alone (slots h.Guests)
end M
theorem aXj(s:DSlot):mQ s=some (M.slotOk s):=by unfold mQ M.slotOk;by_cases h:s.Frame=-1;{rw[dT h];cases s.Write<;>rfl};{rw[dF h];simp only[cFq];exact pD}
theorem aUm{xs:List DSlot}(h:xs.length<=9223372036854775806):lG xs=some (decide (xs.length=8)&&xs.all M.slotOk):=by unfold lG;by_cases hl:xs.length=8;{have:decide (((xs.length:Nat):Int)=8)=true:=(by simp;omega);rw[this,bT,cFq,pK aXj h (rJ xs) (λk=>rfl),dT hl];cases xs.all M.slotOk<;>rfl};{have:decide (((xs.length:Nat):Int)=8)=false:=(by simp;omega);rw[this,dF hl];rfl}
theorem dbe{a b:Bool}(h:a=true↔b=true):a=b:=Bool.eq_iff_iff.2 h
theorem aSd(c:DCore):kI c=some (decide (c=M.noCore)):=by obtain⟨a1,a2,a3,a4,a5,a6,a7,a8,a9,a10,a11,a12,a13⟩:=c;unfold kI;simp only[];by_cases h2:a2=0;{by_cases h3:a3=0;{by_cases h4:a4=0;{by_cases h5:a5=0;{by_cases h1:a1=[];{by_cases h8:a8=0;{by_cases h7:a7=0;{by_cases h9:a9=0;{subst h1 h2 h3 h4 h5 h7 h8 h9;cases a6<;>cases a10<;>cases a11<;>cases a12<;>cases a13<;>simp[M.noCore]};{rw[dF (p:=DCore.mk _ _ _ _ _ _ _ _ _ _ _ _ _=M.noCore) (by simp[M.noCore,h9])];simp only[dF h9];cases a6<;>cases a10<;>cases a11<;>cases a12<;>simp}};{rw[dF (p:=DCore.mk _ _ _ _ _ _ _ _ _ _ _ _ _=M.noCore) (by simp[M.noCore,h7])];simp only[dF h7];cases a6<;>cases a10<;>cases a11<;>cases a12<;>simp}};{rw[dF (p:=DCore.mk _ _ _ _ _ _ _ _ _ _ _ _ _=M.noCore) (by simp[M.noCore,h8])];simp only[dF h8];cases a6<;>cases a10<;>cases a11<;>cases a12<;>simp}};{rw[dF (p:=DCore.mk _ _ _ _ _ _ _ _ _ _ _ _ _=M.noCore) (by simp[M.noCore,h1])];have:decide (((a1.length:Nat):Int)=0)=false:=(by simp[h1]);simp only[this];cases a6<;>cases a10<;>cases a11<;>cases a12<;>simp}};{rw[dF (p:=DCore.mk _ _ _ _ _ _ _ _ _ _ _ _ _=M.noCore) (by simp[M.noCore,h5])];simp only[dF h5];cases a6<;>cases a10<;>cases a11<;>cases a12<;>simp}};{rw[dF (p:=DCore.mk _ _ _ _ _ _ _ _ _ _ _ _ _=M.noCore) (by simp[M.noCore,h4])];simp only[dF h4];cases a6<;>cases a10<;>cases a11<;>cases a12<;>simp}};{rw[dF (p:=DCore.mk _ _ _ _ _ _ _ _ _ _ _ _ _=M.noCore) (by simp[M.noCore,h3])];simp only[dF h3];cases a6<;>cases a10<;>cases a11<;>cases a12<;>simp}};{rw[dF (p:=DCore.mk _ _ _ _ _ _ _ _ _ _ _ _ _=M.noCore) (by simp[M.noCore,h2])];simp only[dF h2];cases a6<;>cases a10<;>cases a11<;>cases a12<;>simp}
theorem aMl{g:DGuest}(hl:g.Live=false):hY g=some (decide (g=M.noGuest)):=by unfold hY;rw[aSd,oB];obtain⟨l,c,p,i,o⟩:=g;simp only at hl;subst hl;simp only[M.noGuest,DGuest.mk.injEq,true_and];by_cases h1:c=M.noCore<;>by_cases h2:p=[]<;>by_cases h3:i=[]<;>by_cases h4:o=[]<;>simp[h1,h2,h3,h4]
theorem bFf{g:DGuest}(hl:g.Live=false):jF g=some (decide (g=M.noGuest)):=by
 unfold jF;obtain⟨l,⟨a1,a2,a3,a4,a5,a6,a7,a8,a9,a10,a11,a12,a13⟩,p,i,o⟩:=g;simp only at hl;subst hl;simp only[bFe rfl,pD];congr 1;apply dbe;simp only[bA,decide_eq_true_eq,Bool.not_eq_true',M.noGuest,M.noCore,DGuest.mk.injEq,DCore.mk.injEq,true_and,Int.natCast_eq_zero,List.length_eq_zero_iff];constructor
 · rintro⟨h1,h2,h3,h4,h5,h6,h7,h8,h9,h10,h11,h12,h13,h14,h15,h16⟩;exact⟨⟨h1,h2,h3,h4,h5,h6,h7,h8,h9,h10,h11,h12,h13⟩,h14,h15,h16⟩
 · rintro⟨⟨h1,h2,h3,h4,h5,h6,h7,h8,h9,h10,h11,h12,h13⟩,h14,h15,h16⟩;exact⟨h1,h2,h3,h4,h5,h6,h7,h8,h9,h10,h11,h12,h13,h14,h15,h16⟩
theorem aUp{g:DGuest}(h:SmallG g):iO g=some (M.guestOk g):=by have:=h.c.regs;have:=h.pages;have:=h.i;have:=h.o;unfold iO M.guestOk;(cases hl:g.Live with|false=>simp only[bF,cTq,aMl hl,oB,cFq]|true=>simp only[bT,cFq,cTq];rw[aWz (by omega),aUm (by omega),aOy (by omega),aOy (by omega)];simp only[oB];cases M.coreOk g.C<;>cases(decide (g.Pages.length=8)&&g.Pages.all M.slotOk)<;>cases M.rowOk g.In<;>rfl)
theorem aRj{gs:List DGuest}(hl:gs.length<=1048576)(h:∀g∈gs,SmallG g):kF gs=some (decide (gs.length=3)&&gs.all M.guestOk):=by
 unfold kF;by_cases hl:gs.length=3
 · have:decide (((gs.length:Nat):Int)=3)=true:=by simp;omega
   rw[this,bT,cFq,dT hl,Bool.true_and]
   have key:=(nH (xs:=gs) (σ:=Unit) (step:=gS gs) (λ_ k=>k) M.guestOk (λ_ _=>()) (λ_=>JO.go ()) (.out false) (λ_ _=>True) (λi x s h1 h2 h3 h4=>by
    refine⟨?_,λ_=>trivial⟩;simp only[gS,dT h1,cTq];rw[aJ ⟨by omega,h1⟩,iT,h3];show Option.bind (iO x) _=_;rw[aUp (h x h2),oB,aF (by omega) (by omega)];cases M.guestOk x<;>rfl) (λs _=>by
    simp only[gS];rw[dF (by omega),cFq]) () trivial).1
   rw[key];cases gs.all M.guestOk<;>rfl
 {have:decide (((gs.length:Nat):Int)=3)=false:=(by simp;omega);rw[this,dF hl];rfl}
theorem bAo{xs:List Int}{i j:Nat}{v:Int}(hi:i<xs.length):(xs.set i v).getD j default=if i=j then v else xs.getD j default:=by by_cases h:i=j;{subst h;simp[List.getD,hi]};{simp[List.getD,List.getElem?_set,h]}
theorem aLv{xs:List Int}{s:DSlot}:(M.bump xs s).length=xs.length:=by unfold M.bump;cases decide (s.Frame=-1)<;>simp
theorem fI{s:DSlot}(h:M.slotOk s=true):-1<=s.Frame/\s.Frame<20:=by unfold M.slotOk at h;by_cases e:s.Frame=-1;{omega};{rw[dF e,cFq,bA,decide_eq_true_eq,decide_eq_true_eq]at h;omega}
theorem aLh{xs:List Int}{s:DSlot}(hl:xs.length=20)(h:M.slotOk s=true){f:Nat}(hf:f<20):(M.bump xs s).getD f default=xs.getD f default+(if s.Frame=(f:Int)then 1 else 0):=by have hr:=fI h;unfold M.bump;by_cases e:s.Frame=-1;{rw[dT e,cTq,if_neg (by omega)];omega};{rw[dF e,cFq,bAo (by omega)];by_cases e2:s.Frame=(f:Int);{rw[if_pos (by omega),if_pos e2];congr 2;omega};{rw[if_neg (by omega),if_neg e2];omega}}
theorem aVj{s:DSlot}{ss:List DSlot}{f:Int}:M.many (s::ss) f=M.many ss f+(if s.Frame=f then 1 else 0):=by simp only[M.many,List.countP_cons,decide_eq_true_eq]
theorem zA{f:Nat}(hf:f<20):∀{ss:List DSlot} {xs:List Int},xs.length=20->ss.all M.slotOk=true->(ss.foldl M.bump xs).length=20/\(ss.foldl M.bump xs).getD f default=xs.getD f default+(M.many ss f:Int)
 |[],xs,hl,_=>⟨hl,by simp[M.many]⟩
 |s::ss,xs,hl,h=>by rw[List.all_cons,bA]at h;obtain⟨h1,h2⟩:=zA hf (ss:=ss) (xs:=M.bump xs s) (by rw[aLv,hl]) h.2;refine⟨h1,?_⟩;rw[List.foldl_cons,h2,aLh hl h.1 hf,aVj];split<;>simp<;>omega
theorem wO{ss:List DSlot}(h:ss.all M.slotOk=true):(M.takers ss).length=20:=(zA (f:=0) (by omega) (xs:=List.replicate 20 0) (by simp) h).1
theorem yD{ss:List DSlot}(h:ss.all M.slotOk=true){f:Nat}(hf:f<20):(M.takers ss).getD f default=(M.many ss f:Int):=by unfold M.takers;rw[(zA (f:=f) hf (xs:=List.replicate 20 0) (by simp) h).2];have:(List.replicate 20 (0:Int)).getD f default=0:=(by rw[gH (by rw[List.length_replicate];omega),List.getElem_replicate]);omega
theorem hO{g:DGuest}(h:M.guestOk g=true):g.Pages.all M.slotOk=true/\g.Pages.length<=8:=by unfold M.guestOk at h;(cases hl:g.Live with|true=>rw[hl,cTq]at h;simp only[bA,decide_eq_true_eq]at h;exact⟨h.1.1.2.2,by omega⟩|false=>rw[hl,cFq,decide_eq_true_eq]at h;rw[h];exact⟨rfl,by simp[M.noGuest]⟩)
theorem aAo{gs:List DGuest}(h:gs.all M.guestOk=true):(M.slots gs).all M.slotOk=true:=by simp only[M.slots,List.all_flatMap,List.all_eq_true]at h ⊢;exact λg hg=>List.all_eq_true.1 (hO (h g hg)).1
structure Tl (B : Nat) (xs : List Int) : Prop where
 len:xs.length=20
 low:∀i,i<20->0<=xs.getD i default
 top:∀i,i<20->xs.getD i default<=(B:Int)
theorem Tl.mono{B C:Nat}{xs:List Int}(h:Tl B xs)(hB:B<=C):Tl C xs:=⟨h.len,h.low,λi hi=>by have:=h.top i hi;omega⟩
theorem Tl.bump{B:Nat}{xs:List Int}{s:DSlot}(h:Tl B xs)(hs:M.slotOk s=true):Tl (B+1) (M.bump xs s):=by refine⟨by rw[aLv,h.len],λi hi=>?_,λi hi=>?_⟩;all_goals rw[aLh h.len hs hi];have:=h.low i hi;have:=h.top i hi;split<;>omega
theorem Tl.zero:Tl 0 (List.replicate 20 0):=by refine⟨by simp,λi hi=>?_,λi hi=>?_⟩;all_goals rw[gH (by rw[List.length_replicate];omega),List.getElem_replicate];omega
theorem bBz{xs:List Int}{s:DSlot}{B:Nat}(hs:M.slotOk s=true)(ht:Tl B xs)(hB:B<=1000000000){Y:Type}:(cond (!decide (s.Frame=(-1:Int))) (grd ((0:Int)<=s.Frame/\s.Frame<((xs.length:Nat):Int)) (grd ((0:Int)<=s.Frame/\s.Frame<((xs.length:Nat):Int)) (some (JO.go (List.set xs (Int.toNat s.Frame) (w64 ((List.getD xs (Int.toNat s.Frame) default)+(1:Int)))))))) (some (JO.go xs)):Option (JO (List Int) Y))=some (.go (M.bump xs s)):=by have hr:=fI hs;have hl:=ht.len;unfold M.bump;by_cases e:s.Frame=-1;{rw[dT e];rfl};{rw[dF e];have h1:=ht.low s.Frame.toNat (by omega);have h2:=ht.top s.Frame.toNat (by omega);rw[bF,cTq,cFq,aJ ⟨by omega,by omega⟩,aJ ⟨by omega,by omega⟩,aF (by omega) (by omega)]}
theorem aZb{gs:List DGuest}(hl:gs.length<=1048576)(h:gs.all M.guestOk=true):gO gs=some (M.takers (M.slots gs)):=by
 have hin:∀(k:Nat) (g:DGuest) (xs:List Int) (h1:(k:Int)<(gs.length:Int)) (h2:g∈gs) (h3:gs.getD k default=g) (h4:Tl (8*k) xs),
  iter (dR gs (xs,(k:Int))) (xs,0)=some (.ret (.go (g.Pages.foldl M.bump xs)))/\Tl (8*k+g.Pages.length) (g.Pages.foldl M.bump xs):=by
  intro k g xs h1 h2 h3 h4;obtain⟨g1,g2⟩:=hO (List.all_eq_true.1 h g h2)
  exact nQ (xs:=g.Pages) (step:=dR gs (xs,(k:Int))) (λs j=>(s,j)) M.bump (λs=> .go s) (λj s=>Tl (8*k+j) s) (λj x s a1 a2 a3 a4=>by
   refine⟨?_,a4.bump (List.all_eq_true.1 g1 x a2)⟩;simp only[dR,iT,h3,dT a1,cTq];rw[aJ ⟨by omega,a1⟩,a3,bBz (List.all_eq_true.1 g1 x a2) a4 (by omega),oB];simp only[JO.run,nW];rw[aF (by omega) (by omega)]) (λs _=>by
   simp only[dR,iT,h3];rw[dF (by omega),cFq]) xs h4
 have key:=(nQ (xs:=gs) (step:=eY gs) (λs j=>(s,j)) (λs g=>g.Pages.foldl M.bump s) (λs=> .go s) (λk s=>Tl (8*k) s) (λk g s a1 a2 a3 a4=>by
  obtain⟨b1,b2⟩:=hin k g s a1 a2 a3 a4;refine⟨?_,b2.mono (by have:=(hO (List.all_eq_true.1 h g a2)).2;omega)⟩;simp only[eY,dT a1,cTq];rw[aJ ⟨by omega,a1⟩,b1];simp only[oB,LO.val,JO.run,nM];rw[aF (by omega) (by omega)]) (λs _=>by
  simp only[eY];rw[dF (by omega),cFq]) (List.replicate 20 0) (Tl.zero.mono (by omega))).1
 unfold gO;rw[show Int.toNat (20:Int)=20 from rfl,key];simp only[oB,LO.val,JO.run,nT];rw[lN];rfl
theorem bAf{gs:List DGuest}(hl:gs.length<=1048576)(h:gs.all M.guestOk=true)(hwr:True):eQ gs=some (M.alone (M.slots gs)):=by
 unfold eQ;rw[aZb hl h,oB];have hs:=aAo h
 have hin:∀(k:Nat) (g:DGuest) (h1:(k:Int)<(gs.length:Int)) (h2:g∈gs) (h3:gs.getD k default=g),
  iter (cW gs (M.takers (M.slots gs)) (k:Int)) 0=some (.ret (bif g.Pages.all (λs=>!s.Write||decide (M.many (M.slots gs) s.Frame<=1))then .go ()else .out (.ret (.out false)))):=by
  intro k g h1 h2 h3;obtain⟨g1,g2⟩:=hO (List.all_eq_true.1 h g h2)
  exact(nH (xs:=g.Pages) (σ:=Unit) (step:=cW gs (M.takers (M.slots gs)) (k:Int)) (λ_ j=>j) _ (λ_ _=>()) (λ_=>JO.go ()) _ (λ_ _=>True) (λj x s a1 a2 a3 _=>by
   refine⟨?_,λ_=>trivial⟩;have hx:=List.all_eq_true.1 g1 x a2;have hr:=fI hx;simp only[cW,iT,h3,dT a1,cTq,a3];rw[aJ ⟨by omega,a1⟩];cases hw:x.Write with
   |false=>simp only[cFq,oB,JO.run,fG,bF,Bool.true_or,cTq];rw[aF (by omega) (by omega)]
   |true=>
    have hf:x.Frame≠-1:=λe=>by unfold M.slotOk at hx;rw[dT e,hw]at hx;simp at hx
    have hlt:=wO hs;simp only[cTq];rw[aJ ⟨by omega,by omega⟩,yD hs (by omega),show((x.Frame.toNat:Nat):Int)=x.Frame by omega];by_cases e:M.many (M.slots gs) x.Frame<=1;{rw[dF (by omega),dT e];simp only[cFq,oB,JO.run,fG,bT,Bool.false_or,cTq];rw[aF (by omega) (by omega)]}
    · rw[dT (by omega),dF e];rfl) (λs _=>by
   simp only[cW,iT,h3];rw[dF (by omega),cFq]) () trivial).1
 have key:=(nH (xs:=gs) (σ:=Unit) (step:=dV gs (M.takers (M.slots gs))) (λ_ j=>j) (λg=>g.Pages.all (λs=>!s.Write||decide (M.many (M.slots gs) s.Frame<=1))) (λ_ _=>()) (λ_=>JO.go ()) (.out false) (λ_ _=>True) (λk g s a1 a2 a3 _=>by
  refine⟨?_,λ_=>trivial⟩;simp only[dV,dT a1,cTq];rw[aJ ⟨by omega,a1⟩,hin k g a1 a2 a3];cases g.Pages.all (λs=>!s.Write||decide (M.many (M.slots gs) s.Frame<=1))with
  |false=>rfl
  |true=>simp only[cTq,oB,LO.val,JO.run,kE];rw[aF (by omega) (by omega)]) (λs _=>by
  simp only[dV];rw[dF (by omega),cFq]) () trivial).1
 rw[key]
 have e:M.alone (M.slots gs)=gs.all (λg=>g.Pages.all (λs=>!s.Write||decide (M.many (M.slots gs) s.Frame<=1))):=by
  simp only[M.alone]
  conv=>lhs;arg 1;unfold M.slots
  rw[List.all_flatMap]
 rw[e];cases gs.all (λg=>g.Pages.all (λs=>!s.Write||decide (M.many (M.slots gs) s.Frame<=1)))<;>rfl
theorem aMz{h:DHost}(hs:SmallH h):jS h=some (M.hostOk h):=by have:=hs.words;unfold jS M.hostOk;by_cases hl:h.Words.length=160;{rw[show decide (((h.Words.length:Nat):Int)=160)=true by simp;omega,cTq,zD (by omega),dT hl,oB];(cases M.wordsOk h.Words with|false=>rfl|true=>rw[cTq,aRj hs.guests hs.all,oB];(cases hg:(decide (h.Guests.length=3)&&h.Guests.all M.guestOk)with|false=>rfl|true=>rw[bA]at hg;rw[cTq,bAf hs.guests hg.2 trivial];rfl))};{rw[show decide (((h.Words.length:Nat):Int)=160)=false by simp;omega,dF hl];rfl}
theorem aYw{xs:List Int}{n:Int}(h:xs.length<=9223372036854775806):cP xs n=some (decide ((xs.length:Int)<=n)&&M.wordsOk xs):=by unfold cP;rw[pK pJ h (mB xs) (λk=>rfl)];simp only[M.wordsOk];cases xs.all M.wordOk;{simp[LO.val,JO.run]};{simp only[LO.val,JO.run,oB,mE,cTq,Bool.and_true]}
namespace M
def bumpW(ws:List Bool)(s:DSlot):List Bool:=bif decide (s.Frame=-1)then ws else ws.set s.Frame.toNat (ws.getD s.Frame.toNat default||s.Write)
def bump2(p:List Int×List Bool)(s:DSlot):List Int×List Bool:=(bump p.1 s,bumpW p.2 s)
end M
theorem aXw{xs:List Bool}{i j:Nat}{v:Bool}(hi:i<xs.length):(xs.set i v).getD j default=if i=j then v else xs.getD j default:=by by_cases h:i=j;{subst h;simp[List.getD,hi]};{simp[List.getD,List.getElem?_set,h]}
theorem aHv{xs:List Bool}{s:DSlot}:(M.bumpW xs s).length=xs.length:=by unfold M.bumpW;cases decide (s.Frame=-1)<;>simp
theorem aUf{xs:List Bool}{s:DSlot}(hl:xs.length=20)(h:M.slotOk s=true){f:Nat}(hf:f<20):(M.bumpW xs s).getD f default=(xs.getD f default||(decide (s.Frame=(f:Int))&&s.Write)):=by have hr:=fI h;unfold M.bumpW;by_cases e:s.Frame=-1;{rw[dT e,cTq,dF (by omega)];simp};{rw[dF e,cFq,aXw (by omega)];by_cases e2:s.Frame=(f:Int);{rw[if_pos (by omega),dT e2,Bool.true_and];congr 2;omega};{rw[if_neg (by omega),dF e2];simp}}
theorem aIh:∀{ss:List DSlot} {p:List Int×List Bool},(ss.foldl M.bump2 p).1=ss.foldl M.bump p.1
 |[],_=>rfl
 |s::ss,p=>by rw[List.foldl_cons,aIh];rfl
theorem aIp{f:Nat}(hf:f<20):∀{ss:List DSlot} {p:List Int×List Bool},p.2.length=20->ss.all M.slotOk=true->(ss.foldl M.bump2 p).2.length=20/\(ss.foldl M.bump2 p).2.getD f default=(p.2.getD f default||ss.any λs=>decide (s.Frame=(f:Int))&&s.Write)
 |[],p,hl,_=>⟨hl,by simp⟩
 |s::ss,p,hl,h=>by rw[List.all_cons,bA]at h;obtain⟨h1,h2⟩:=aIp hf (ss:=ss) (p:=M.bump2 p s) (by simpa[M.bump2,aHv]using hl) h.2;refine⟨h1,?_⟩;rw[List.foldl_cons,h2,List.any_cons];simp only[M.bump2];rw[aUf hl h.1 hf,Bool.or_assoc]
structure Tw (B : Nat) (p : List Int × List Bool) : Prop where
 tl:Tl B p.1
 len:p.2.length=20
theorem Tw.bump{B:Nat}{p:List Int×List Bool}{s:DSlot}(h:Tw B p)(hs:M.slotOk s=true):Tw (B+1) (M.bump2 p s):=⟨h.tl.bump hs,by simp[M.bump2,aHv,h.len]⟩
theorem aPk{h:DHost}{k:Nat}{g:DGuest}{p:List Int×List Bool}{B:Nat}(hl:g.Pages.length<=8)(h3:h.Guests.getD k default=g)(ht:Tw B p)(hB:B<=1000000):
 iter (fE h (p.1,p.2,(k:Int))) (p.1,p.2,0)=some (.ret (bif g.Pages.all M.slotOk then .go ((g.Pages.foldl M.bump2 p).1,(g.Pages.foldl M.bump2 p).2)else .out (.ret (.out false))))/\(g.Pages.all M.slotOk=true->Tw (B+g.Pages.length) (g.Pages.foldl M.bump2 p)):=by
 exact nH (xs:=g.Pages) (step:=fE h (p.1,p.2,(k:Int))) (λs j=>(s.1,s.2,j)) M.slotOk M.bump2 (λs=> .go (s.1,s.2)) (.out (.ret (.out false))) (λj s=>Tw (B+j) s) (λj x s a1 a2 a3 a4=>by
  refine⟨?_,λhx=>a4.bump hx⟩;simp only[fE,iT,h3,dT a1,cTq,a3];rw[aJ ⟨by omega,a1⟩,oC,oB];have hgo:M.slotOk x=true->lY h (p.1,p.2,(k:Int)) (s.1,s.2,(j:Int)) ()=some (.go ((M.bump2 s x).2,(M.bump2 s x).1)):=λhx=>by have hr:=fI hx;have hl1:=a4.tl.len;have hl2:=a4.len;simp only[lY,iT,h3,a3,M.bump2,M.bump,M.bumpW];by_cases e:x.Frame=-1;{rw[dF (p:=(0:Int)<=x.Frame) (by omega),dT e];rfl};{have q1:=a4.tl.low x.Frame.toNat (by omega);have q2:=a4.tl.top x.Frame.toNat (by omega);rw[dT (p:=(0:Int)<=x.Frame) (by omega),dF e];simp only[cTq,cFq];rw[aJ ⟨by omega,by omega⟩,aJ ⟨by omega,by omega⟩,aJ ⟨by omega,by omega⟩,aF (by omega) (by omega)];(cases hw:s.2.getD x.Frame.toNat default with|true=>rw[cTq,aJ ⟨by omega,by omega⟩,Bool.true_or]|false=>rw[cFq,aJ ⟨by omega,by omega⟩,Bool.false_or])}
  by_cases e:x.Frame=-1;{have hin:M.inR (-1) 19 x.Frame=true:=(by rw[M.inR_iff];omega);rw[hin,bT,cFq,dT e,cTq];(cases hw:x.Write with|true=>have:M.slotOk x=false:=(by unfold M.slotOk;rw[dT e,hw];rfl);rw[this];rfl|false=>(cases hd:x.Dirty with|true=>have:M.slotOk x=false:=(by unfold M.slotOk;rw[dT e,hw,hd];rfl);rw[this];rfl|false=>have hx:M.slotOk x=true:=(by unfold M.slotOk;rw[dT e,hw,hd];rfl);rw[hx];simp only[cFq,oB,JO.run,hgo hx,mD,cTq];rw[aF (by omega) (by omega)]))}
  · by_cases hin:M.inR (-1) 19 x.Frame=true
    {have hr:=M.inR_iff.1 hin;have hx:M.slotOk x=true:=(by unfold M.slotOk;rw[dF e,cFq,bA,decide_eq_true_eq,decide_eq_true_eq];omega);rw[hin,bT,cFq,dF e,cFq,hx];simp only[oB,JO.run,hgo hx,mD,cTq];rw[aF (by omega) (by omega)]}
    · have hn:¬(-1<=x.Frame/\x.Frame<=19):=λc=>hin (M.inR_iff.2 c);have hx:M.slotOk x=false:=(by(cases hh:M.slotOk x with|false=>rfl|true=>have:=fI hh;omega));rw[Bool.eq_false_iff.2 hin,hx];rfl) (λs _=>by
  simp only[fE,iT,h3];rw[dF (by omega),cFq]) p ht
theorem aYj{h:DHost}(hs:SmallH h)(hl:h.Guests.length=3):
 iter (fW h) (List.replicate 20 0,List.replicate 20 false,0)=some (.ret (bif h.Guests.all M.guestOk then .go (((M.slots h.Guests).foldl M.bump2 (List.replicate 20 0,List.replicate 20 false)).1,((M.slots h.Guests).foldl M.bump2 (List.replicate 20 0,List.replicate 20 false)).2)else .out false)):=by
 have key:=(nH (xs:=h.Guests) (step:=fW h) (λ(s:List Int×List Bool) j=>(s.1,s.2,j)) M.guestOk (λs g=>g.Pages.foldl M.bump2 s) (λs=>JO.go (s.1,s.2)) (.out false) (λj s=>Tw (8*j) s) (λk g s a1 a2 a3 a4=>by
  have hg:=hs.all g a2;have:=hg.c.regs;have:=hg.pages;have:=hg.i;have:=hg.o;refine⟨?_,λhx=>?_⟩;{simp only[fW,iT,dT a1,cTq,a3];rw[aJ ⟨by omega,a1⟩];(cases hlv:g.Live with|false=>have e:jF (DGuest.mk false (DCore.mk g.C.Regs g.C.Pc g.C.Root g.C.Vector g.C.Saved g.C.SavedUser g.C.Cause g.C.Bad g.C.Timer g.C.Waits g.C.User g.C.On g.C.Stopped) g.Pages g.In g.Out)=some (decide (g=M.noGuest)):=(by have:=bFf hlv;obtain⟨l,c,p,i,o⟩:=g;simp only at hlv;subst hlv;exact this);rw[bF,cTq,e,oB];have e2:M.guestOk g=decide (g=M.noGuest):=(by unfold M.guestOk;rw[hlv];rfl);rw[e2];by_cases hz:g=M.noGuest;{rw[dT hz,hz];simp only[bT,cFq,oB,JO.run,nC,cTq,M.noGuest,List.foldl_nil];rw[aF (by omega) (by omega)]};{rw[dF hz];rfl}|true=>rw[bT,cFq];have e2:M.guestOk g=(M.coreOk g.C&&(decide (g.Pages.length=8)&&g.Pages.all M.slotOk)&&M.rowOk g.In&&M.rowOk g.Out):=(by unfold M.guestOk;rw[hlv];rfl);show Option.bind (Option.bind (gF g.C) _) _=_;rw[aMp (by omega),oB,e2];(cases hc:M.coreOk g.C with|false=>rfl|true=>rw[bT,cFq,Bool.true_and];by_cases hp:g.Pages.length=8;{rw[dT hp,show decide (((g.Pages.length:Nat):Int)=8)=true by simp;omega,bT,cFq,aBd (by omega),oB,aBd (by omega)];(cases hri:M.rowOk g.In with|false=>simp[JO.run]|true=>rw[bT,cFq,oB];(cases hro:M.rowOk g.Out with|false=>simp[JO.run]|true=>rw[bT,cFq,(aPk (by omega) a3 a4 (by omega)).1];(cases hpp:g.Pages.all M.slotOk with|false=>rfl|true=>simp only[cTq,oB,LO.val,JO.run,nC,Bool.and_self];rw[aF (by omega) (by omega)])))};{rw[dF hp,show decide (((g.Pages.length:Nat):Int)=8)=false by simp;omega];rfl}))}
  · obtain⟨q1,q2⟩:=hO hx;have:=(aPk q2 a3 a4 (by omega)).2 q1;exact⟨this.tl.mono (by omega),this.len⟩) (λs _=>by
  simp only[fW];rw[dF (by omega),cFq]) (List.replicate 20 0,List.replicate 20 false) ⟨Tl.zero.mono (by omega),by simp⟩).1
 rw[lN]at key;exact key
theorem bAg{ss:List DSlot}(h:ss.all M.slotOk=true):((List.range 20).all λf=>!(decide (1<M.many ss (f:Int))&&ss.any λs=>decide (s.Frame=(f:Int))&&s.Write))=M.alone ss:=by
 apply dbe;simp only[M.alone,List.all_eq_true,List.mem_range,Bool.not_eq_true',Bool.and_eq_false_iff,decide_eq_false_iff_not,List.any_eq_false,bA,decide_eq_true_eq,Bool.or_eq_true,not_and];constructor
 · intro q s hs
   cases hw:s.Write with
   |false=>exact .inl rfl
   |true=>
    have hx:=List.all_eq_true.1 h s hs;have hr:=fI hx;have hf:s.Frame≠-1:=λe=>by unfold M.slotOk at hx;rw[dT e,hw]at hx;simp at hx
    rcases q s.Frame.toNat (by omega)with q|q;{rw[show((s.Frame.toNat:Nat):Int)=s.Frame by omega]at q;exact .inr (by omega)};{exact absurd hw (by simpa using q s hs (by omega))}
 {intro q f hf;by_cases hm:1<M.many ss (f:Int);{refine .inr λs hs e=>?_;rcases q s hs with q|q;{simp[q]};{rw[e]at q;omega}};{exact .inl hm}}
theorem wY{h:DHost}(hs:SmallH h):fB h=some (M.hostOk h):=by
 have:=hs.words;unfold fB M.hostOk;rw[aYw (by omega),oB];by_cases hl:h.Words.length=160
 · rw[dT (p:=(h.Words.length:Int)<=160) (by omega),dT hl]
   cases M.wordsOk h.Words with
   |false=>rfl
   |true=>
    rw[Bool.true_and,bT,cFq,dT (p:=((h.Words.length:Nat):Int)=160) (by omega),bT,cFq];by_cases hg:h.Guests.length=3
    · rw[dT hg,dT (p:=((h.Guests.length:Nat):Int)=3) (by omega),bT,cFq]
      rw[show Int.toNat (20:Int)=20 from rfl,aYj hs hg];cases ha:h.Guests.all M.guestOk with
      |false=>rfl
      |true=>
       have hsl:=aAo ha;simp only[cTq,oB,LO.val,JO.run,tF,Bool.true_and];rw[aIh]
       have key:=aWe (n:=20) (step:=iY ((M.slots h.Guests).foldl M.bump (List.replicate 20 0),((M.slots h.Guests).foldl M.bump2 (List.replicate 20 0,List.replicate 20 false)).2)) (λk=>k) (λf=>!(decide (1<M.many (M.slots h.Guests) (f:Int))&&(M.slots h.Guests).any λs=>decide (s.Frame=(f:Int))&&s.Write)) (JO.go ()) (.out false) (λi hi=>by
        have q1:=yD hsl hi;have q2:=wO hsl;obtain⟨q3,q4⟩:=aIp hi (p:=(List.replicate 20 0,List.replicate 20 false)) (by simp) hsl;unfold M.takers at q1 q2;simp only[iY,iT];have e0:decide ((1:Int)<(List.foldl M.bump (List.replicate 20 0) (M.slots h.Guests)).getD i default)=decide (1<M.many (M.slots h.Guests) (i:Int)):=(by rw[decide_eq_decide,q1];omega);rw[dT (p:=(i:Int)<20) (by omega),cTq,aJ ⟨by omega,by omega⟩,e0,q4];rw[show(List.replicate 20 false).getD i default=false by rw[gH (by rw[List.length_replicate];omega),List.getElem_replicate],Bool.false_or];by_cases e:1<M.many (M.slots h.Guests) (i:Int)
        · rw[dT e,cTq,aJ ⟨by omega,by omega⟩]
          cases(M.slots h.Guests).any λs=>decide (s.Frame=(i:Int))&&s.Write with
          |true=>rfl
          |false=>simp only[cFq,oB,JO.run,nJ,Bool.and_false,bF,cTq];rw[aF (by omega) (by omega)]
        · rw[dF e];simp only[cFq,oB,JO.run,nJ,Bool.false_and,bF,cTq];rw[aF (by omega) (by omega)]) (by
        simp only[iY];rfl)
       rw[key,bAg hsl];cases M.alone (M.slots h.Guests)<;>rfl
    {rw[dF hg,dF (p:=((h.Guests.length:Nat):Int)=3) (by omega)];rfl}
 {rw[dF hl,dF (p:=((h.Words.length:Nat):Int)=160) (by omega)];cases(decide ((h.Words.length:Int)<=160)&&M.wordsOk h.Words)<;>rfl}
structure HOk (h : DHost) : Prop where
 len:h.Words.length=160
 words:M.wordsOk h.Words=true
 three:h.Guests.length=3
 all:h.Guests.all M.guestOk=true
 alone:M.alone (M.slots h.Guests)=true
theorem gJ{h:DHost}:M.hostOk h=true↔HOk h:=by unfold M.hostOk;simp only[bA,decide_eq_true_eq];exact⟨λ⟨⟨⟨a,b⟩,c,d⟩,e⟩=>⟨a,b,c,d,e⟩,λh=>⟨⟨⟨h.len,h.words⟩,h.three,h.all⟩,h.alone⟩⟩
namespace M
noncomputable def there (h:DHost)(g:Int):Bool:=hostOk h&&(inR 0 2 g&&(h.Guests.getD g.toNat default).Live)
end M
theorem aTx{h:DHost}{g:Int}:M.there h g=true↔HOk h/\0<=g/\g<=2/\(h.Guests.getD g.toNat default).Live=true:=by unfold M.there;rw[bA,bA,gJ,M.inR_iff];exact⟨λ⟨a,⟨b,c⟩,d⟩=>⟨a,b,c,d⟩,λ⟨a,b,c,d⟩=>⟨a,⟨b,c⟩,d⟩⟩
theorem aAi{gs:List DGuest}{g:Int}(h3:gs.length=3):fN gs g=some (M.inR 0 2 g&&(gs.getD g.toNat default).Live):=by unfold fN M.inR;by_cases h0:0<=g;{by_cases h1:g<3;{rw[dT h0,dT h1,dT (p:=g<=2) (by omega),cTq,cTq,aJ ⟨h0,by omega⟩];rfl};{rw[dT h0,dF h1,dF (p:=g<=2) (by omega)];rfl}};{rw[dF h0];rfl}
theorem aSu{h:DHost}{g:Int}(hs:SmallH h):gN h g=some (M.there h g):=by unfold gN M.there;rw[aMz hs,oB];(cases hh:M.hostOk h with|false=>rfl|true=>have hk:=gJ.1 hh;rw[cTq,aAi hk.three];rfl)
theorem aMu{h:DHost}{g:Int}(hs:SmallH h):gG h g=some (M.there h g):=by unfold gG M.there;rw[wY hs,oB];(cases hh:M.hostOk h with|false=>rfl|true=>have hk:=gJ.1 hh;have:=hk.three;rw[cTq,Bool.true_and,oC,oB];(cases hi:M.inR 0 2 g with|false=>rfl|true=>have:=M.inR_iff.1 hi;rw[cTq,Bool.true_and,aJ ⟨by omega,by omega⟩]))
theorem aTg{c:DCore}(h:SmallC c):jJ c=some c:=by have:=h.regs;unfold jJ;rw[aJ ⟨by simp;omega,by simp;omega⟩];rfl
theorem aVc{xs ys:List Int}{o k:Nat}(ho:o+k<=xs.length):(over xs o k ys).length=xs.length:=zN ho
theorem aXz{xs:List Int}{o a:Nat}(ha:a<8):((xs.drop o).take 8).getD a default=xs.getD (o+a) default:=by simp only[List.getD_eq_getElem?_getD];rw[List.getElem?_take_of_lt ha,List.getElem?_drop]
theorem aLb{xs:List Int}{o:Nat}(h:o+8<=xs.length):((xs.drop o).take 8).length=8:=by simp;omega
namespace M
def word(ws:List Int)(ps:List DSlot)(a:Nat):Int:=if(ps.getD (a/8) default).Frame<0 then 0 else ws.getD ((ps.getD (a/8) default).Frame.toNat*8+a%8) default
def mem(ws:List Int)(ps:List DSlot):List Int:=(List.range 64).map (word ws ps)
def page(ws:List Int)(f:Nat):List Int:=(ws.drop (f*8)).take 8
end M
theorem aYv{xs:List Int}{f:Int}(h0:0<=f)(h1:f*8+8<=xs.length)(h2:f<=1000000):gI xs f=some (M.page xs f.toNat):=by unfold gI M.page;rw[aF (z:=f*8) (by omega) (by omega),aF (z:=f+1) (by omega) (by omega),aF (z:=(f+1)*8) (by omega) (by omega),aJ ⟨by omega,by omega,by omega⟩];rw[show Int.toNat ((f+1)*8)-Int.toNat (f*8)=8 by omega,show Int.toNat (f*8)=f.toNat*8 by omega]
theorem aWm{ps:List DSlot}(hp:ps.all M.slotOk=true){i:Nat}(hi:i<ps.length):-1<=(ps.getD i default).Frame/\(ps.getD i default).Frame<20:=fI (List.all_eq_true.1 hp _ (xM hi))
structure Live (h : DHost) (g : Int) (x : DGuest) : Prop where
 small:SmallG x
 ok:HOk h
 lo:0<=g
 hi:g<=2
 at_:h.Guests.getD g.toNat default=x
 aCq:x.Live=true
 core:M.coreOk x.C=true
 pages:x.Pages.length=8
 slots:x.Pages.all M.slotOk=true
 inn:M.rowOk x.In=true
 out:M.rowOk x.Out=true
theorem oO{h:DHost}{g:Int}(hs:SmallH h)(ht:M.there h g=true):Live h g (h.Guests.getD g.toNat default):=by obtain⟨hk,h0,h1,h2⟩:=aTx.1 ht;have:=hk.three;have hm:=xM (xs:=h.Guests) (k:=g.toNat) (by omega);have ho:=List.all_eq_true.1 hk.all _ hm;unfold M.guestOk at ho;rw[h2,cTq]at ho;simp only[bA,decide_eq_true_eq]at ho;exact⟨hs.all _ hm,hk,h0,h1,rfl,h2,ho.1.1.1,ho.1.1.2.1,ho.1.1.2.2,ho.1.2,ho.2⟩
theorem td8(i:Nat):Int.tdiv (i:Int) 8=((i/8:Nat):Int):=rfl
theorem tm8(i:Nat):Int.tmod (i:Int) 8=((i%8:Nat):Int):=rfl
theorem aNr{α:Type}{f:Nat->α}:∀(xs:List Nat) (s:List α),xs.foldl (λs i=>s++[f i]) s=s++xs.map f
 |[],s=>by simp
 |x::xs,s=>by rw[List.foldl_cons,aNr xs];simp
def aZu{T:Type}(m:T->Int->T×Int):List T->Int->List T×Int
 |[],k=>([],k)
 |x::xs,k=>((m x k).1::(aZu m xs (m x k).2).1,(aZu m xs (m x k).2).2)
theorem bBl{g:DGuest}(h:M.guestOk g=true)(hl:g.Live=false):g=M.noGuest:=by unfold M.guestOk at h;rw[hl,cFq,decide_eq_true_eq]at h;exact h
theorem bBo{g:DGuest}(hs:SmallG g)(h:M.guestOk g=true):iL g=some g:=by have:=hs.pages;have:=hs.i;have:=hs.o;unfold iL;(cases hl:g.Live with|false=>have:=bBl h hl;subst this;rfl|true=>rw[bT,cFq,aTg hs.c,oB,aJ ⟨by omega,by omega⟩,aJ ⟨by omega,by omega⟩,aJ ⟨by omega,by omega⟩,<-hl])
theorem bDq{h:DHost}(hs:SmallH h)(hg:h.Guests.all M.guestOk=true):mT h=some h:=by
 have:=hs.words;have:=hs.guests;unfold mT;rw[aJ ⟨by simp;omega,by simp;omega⟩]
 have key:=(nQ (xs:=h.Guests) (step:=jA h) (λs j=>(s,j)) (λs g=>s++[g]) (λs=>JO.go s) (λj s=>s.length=j) (λk g s a1 a2 a3 a4=>by
  refine⟨?_,by simp;omega⟩;simp only[jA,dT a1,cTq,iT,a3];rw[aJ ⟨by omega,a1⟩];show Option.bind (iL g) _=_;rw[bBo (hs.all g a2) (List.all_eq_true.1 hg g a2),oB,aJ ⟨by omega,by omega⟩,aF (by omega) (by omega)]) (λs _=>by
  simp only[jA];rw[dF (by omega),cFq]) [] rfl).1
 rw[key]
 have e:∀(xs ys:List DGuest),xs.foldl (λs g=>s++[g]) ys=ys++xs:=by
  intro xs;induction xs with
  |nil=>intro ys;simp
  |cons x xs ih=>intro ys;rw[List.foldl_cons,ih];simp
 rw[e];rfl
namespace M
end M
def dec(w:Int):DEntry:=⟨decide (w%2=1),decide (w/2%2=1),decide (w/4%2=1),w/8%8⟩
theorem aXh(w:Int):0<=(dec w).Page/\(dec w).Page<=7:=by simp only[dec];omega
theorem gW{w k:Int}(h0:0<=w)(h1:w<=4095)(hk:1<=k):w64 (Int.tdiv w k)=w/k/\0<=w/k:=by have e:Int.tdiv w k=w/k:=Int.tdiv_eq_ediv_of_nonneg h0;have g0:0<=w/k:=Int.ediv_nonneg h0 (by omega);have g1:w/k<=w:=Int.ediv_le_self k h0;rw[e,aF (by omega) (by omega)];exact⟨rfl,g0⟩
theorem aOd{w:Int}(h0:0<=w)(h1:w<=4095):iX w=some (dec w):=by unfold iX;rw[aCs,show M.wordOk w=true from M.inR_iff.2 ⟨h0,h1⟩];simp only[oB,bT,cFq];rw[(gW h0 h1 (k:=1) (by omega)).1,(gW h0 h1 (k:=2) (by omega)).1,(gW h0 h1 (k:=4) (by omega)).1,(gW h0 h1 (k:=8) (by omega)).1,iM (gW h0 h1 (k:=1) (by omega)).2,iM (gW h0 h1 (k:=2) (by omega)).2,iM (gW h0 h1 (k:=4) (by omega)).2,iM (gW h0 h1 (k:=8) (by omega)).2,Int.ediv_one];rfl
theorem aNu{w:Int}(h0:0<=w)(h1:w<=4095):iZ w=some (dec w):=by unfold iZ;rw[pJ,show M.wordOk w=true from M.inR_iff.2 ⟨h0,h1⟩];simp only[oB,bT,cFq];rw[(gW h0 h1 (k:=2) (by omega)).1,(gW h0 h1 (k:=4) (by omega)).1,(gW h0 h1 (k:=8) (by omega)).1,iM h0,iM (gW h0 h1 (k:=2) (by omega)).2,iM (gW h0 h1 (k:=4) (by omega)).2,iM (gW h0 h1 (k:=8) (by omega)).2];rfl
namespace M
def entry(ws:List Int)(x:DGuest)(p:Nat):DEntry:=if x.C.Root=-1 then⟨true,true,true,(p:Int)⟩else dec (word ws x.Pages (x.C.Root.toNat*8+p))
def aXl(x:DGuest)(e:DEntry):DShade:=⟨e.There,e.Write,e.User,e.Page,(x.Pages.getD e.Page.toNat default).Frame,(x.Pages.getD e.Page.toNat default).Write⟩
def shade(ws:List Int)(x:DGuest)(p:Nat):DShade:=aXl x (entry ws x p)
def shadow(ws:List Int)(x:DGuest):List DShade:=(List.range 8).map (shade ws x)
noncomputable def shadowOf (h:DHost)(g:Int):List DShade:=bif there h g then shadow h.Words (h.Guests.getD g.toNat default)else[]
def pageWords(ws:List Int)(s:DSlot):List Int:=bif decide (s.Frame=-1)then List.replicate 8 0 else page ws s.Frame.toNat
end M
theorem oN{ws:List Int}{x:DGuest}:(M.shadow ws x).length=8:=by simp[M.shadow]
theorem sJ{ws:List Int}{x:DGuest}{p:Nat}(hp:p<8):(M.shadow ws x).getD p default=M.shade ws x p:=by rw[gH (by rw[oN];exact hp)];simp[M.shadow]
theorem aIe{c:DCore}(h:M.coreOk c=true):-1<=c.Root/\c.Root<=7:=by unfold M.coreOk at h;simp only[bA]at h;exact M.inR_iff.1 h.1.1.2
section
variable {h : DHost} {g : Int} {x : DGuest}
theorem tY(l:Live h g x){p:Nat}(hp:p<8):-1<=(x.Pages.getD p default).Frame/\(x.Pages.getD p default).Frame<20:=aWm l.slots (by rw[l.pages];exact hp)
theorem aQc(l:Live h g x){a:Nat}(ha:a<64):0<=M.word h.Words x.Pages a/\M.word h.Words x.Pages a<=4095:=by have:=tY l (p:=a/8) (by omega);have:=l.ok.len;unfold M.word;split;{omega};{exact aNv l.ok.words (by omega)}
theorem aNw{ws:List Int}{s:DSlot}(hw:ws.length=160)(hs:-1<=s.Frame/\s.Frame<20):fY ws s=some (M.pageWords ws s):=by unfold fY M.pageWords;by_cases e:s.Frame=-1;{rw[dT e];rfl};{rw[dF e,cFq,cFq,aYv (by omega) (by omega) (by omega)];rfl}
theorem aIu{ws:List Int}{s:DSlot}(hw:ws.length=160)(hs:-1<=s.Frame/\s.Frame<20):(M.pageWords ws s).length=8:=by unfold M.pageWords;by_cases e:s.Frame=-1;{rw[dT e,cTq,List.length_replicate]};{rw[dF e,cFq];exact aLb (by omega)}
theorem aIx{ws:List Int}{s:DSlot}(hs:-1<=s.Frame/\s.Frame<20){a:Nat}(ha:a<8):(M.pageWords ws s).getD a default=if s.Frame<0 then 0 else ws.getD (s.Frame.toNat*8+a) default:=by unfold M.pageWords;by_cases e:s.Frame=-1;{rw[dT e,cTq,if_pos (by omega),gH (by rw[List.length_replicate];exact ha),List.getElem_replicate]};{rw[dF e,cFq,if_neg (by omega)];exact aXz ha}
theorem bBa{ws:List Int}{ps:List DSlot}{r p:Nat}(hp:p<8):M.word ws ps (r*8+p)=if(ps.getD r default).Frame<0 then 0 else ws.getD ((ps.getD r default).Frame.toNat*8+p) default:=by unfold M.word;rw[show(r*8+p)/8=r by omega,show(r*8+p)%8=p by omega]
theorem wX(l:Live h g x){p:Nat}(hp:p<8):0<=(M.entry h.Words x p).Page/\(M.entry h.Words x p).Page<=7:=by unfold M.entry;split;{simp only;omega};{exact aXh _}
theorem aTw(l:Live h g x){p:Nat}(hp:p<8):lU h g (p:Int)=some (M.entry h.Words x p):=by have:=l.ok.three;have:=l.lo;have:=l.hi;have hpl:=l.pages;have hr:=aIe l.core;unfold lU M.entry;rw[aJ ⟨l.lo,by omega⟩,l.at_];by_cases e:x.C.Root=-1;{rw[dT e,if_pos e];rfl};{have hsl:=tY l (p:=x.C.Root.toNat) (by omega);rw[dF e,if_neg e,cFq,aJ ⟨by omega,by omega⟩];show Option.bind (fY h.Words (x.Pages.getD x.C.Root.toNat default)) _=_;rw[aNw l.ok.len hsl,oB,aJ ⟨by omega,by rw[aIu l.ok.len hsl];omega⟩,iT,aIx hsl hp];have hw:=aQc l (a:=x.C.Root.toNat*8+p) (by omega);rw[bBa hp]at hw ⊢;rw[aOd hw.1 hw.2];rfl}
theorem zR(l:Live h g x){p:Nat}(hp:p<8):fP h g (p:Int)=some (M.shade h.Words x p):=by have:=l.ok.three;have:=l.lo;have:=l.hi;have hpl:=l.pages;have he:=wX l hp;unfold fP;rw[aTw l hp,oB,aJ ⟨l.lo,by omega⟩,l.at_,aJ ⟨by omega,by omega⟩];rfl
end
section
variable {h : DHost} {g : Int} {x : DGuest}
theorem aXc(l:Live h g x){a:Nat}(ha:a<64):mU h g (a:Int)=some (M.word h.Words x.Pages a):=by have:=l.ok.three;have:=l.lo;have:=l.hi;have hpl:=l.pages;have hlw:=l.ok.len;have hr:=tY l (p:=a/8) (by omega);unfold mU M.word;rw[aJ ⟨l.lo,by omega⟩,l.at_,td8,tm8,aF (z:=((a/8:Nat):Int)) (by omega) (by omega),iT,aJ ⟨by omega,by omega⟩];by_cases e:(x.Pages.getD (a/8) default).Frame<0;{rw[dT e,if_pos e];rfl};{rw[dF e,if_neg e,cFq,aF (z:=(x.Pages.getD (a/8) default).Frame*8) (by omega) (by omega),aF (z:=(x.Pages.getD (a/8) default).Frame*8+((a%8:Nat):Int)) (by omega) (by omega),aJ ⟨by omega,by omega⟩];rw[show Int.toNat ((x.Pages.getD (a/8) default).Frame*8+((a%8:Nat):Int))=(x.Pages.getD (a/8) default).Frame.toNat*8+a%8 by omega]}
end
theorem aFn{h:DHost}{g:Int}(hs:SmallH h):gU h g=some (M.shadowOf h g):=by
 unfold gU M.shadowOf;rw[aMu hs,oB];cases ht:M.there h g with
 |false=>rfl
 |true=>
  have l:=oO hs ht;generalize hx:h.Guests.getD g.toNat default=x at l;have:=l.ok.three;have:=l.lo;have:=l.hi;have hpl:=l.pages;have hr:=aIe l.core;rw[bT,cFq]
  have key:=(aGk (n:=8) (step:=gL h g) (λs j=>(s,j)) (λs i=>s++[M.shade h.Words x i]) (λs=>JO.go s) (λk s=>s.length=k) (λi s hi hs=>by
   refine⟨?_,by simp;omega⟩;have he:=wX l hi;have run:JO.run (.go ((M.entry h.Words x i).There,(M.entry h.Words x i).Write,(M.entry h.Words x i).User,(M.entry h.Words x i).Page)) (kP h g (s,(i:Int)))=some (LO.next (s++[M.shade h.Words x i],(i:Int)+1)):=(by simp only[JO.run,kP];rw[aJ ⟨l.lo,by omega⟩,l.at_,aJ ⟨by omega,by omega⟩,aJ ⟨by simp;omega,by simp;omega⟩,aF (by omega) (by omega)];rfl);simp only[gL];rw[dT (p:=(i:Int)<8) (by omega),cTq,aJ ⟨l.lo,by omega⟩,l.at_];by_cases e:x.C.Root=-1;{rw[dF (by omega),cFq,oB];have ee:M.entry h.Words x i=⟨true,true,true,(i:Int)⟩:=(by unfold M.entry;rw[if_pos e]);rw[ee]at run;exact run}
   · have ee:M.entry h.Words x i=dec (M.word h.Words x.Pages (x.C.Root.toNat*8+i)):=(by unfold M.entry;rw[if_neg e]);have hw:=aQc l (a:=x.C.Root.toNat*8+i) (by omega);rw[dT (by omega),cTq,aF (z:=x.C.Root*8) (by omega) (by omega),aF (z:=x.C.Root*8+(i:Int)) (by omega) (by omega),show x.C.Root*8+(i:Int)=((x.C.Root.toNat*8+i:Nat):Int) by omega,aXc l (by omega),oB,aNu hw.1 hw.2];rw[ee]at run;exact run) (λs _=>by
   simp only[gL];rfl) [] rfl).1
  rw[key,aNr];rfl
theorem aWi {S R:Type} {n:Nat} {step:S->Option (LO S R)} (st:Nat->S) (ok:Nat->Bool) (a:R) (r:Nat->R)
 (hs:∀i,i<n->step (st i)=some (bif ok i then .next (st (i+1))else .ret (r i))) (he:step (st n)=some (.ret a)):
 iter step (st 0)=some (.ret (match (List.range n).find? (λi=>!ok i)with|some i=>r i|none=>a)):=by
 have key:∀m i,i+m=n->iter step (st i)=some (.ret (match (List.range' i m).find? (λi=>!ok i)with|some i=>r i|none=>a)):=by
  intro m;induction m with
  |zero=>intro i hi;have:i=n:=(by omega);subst this;rw[fA,he];rfl
  |succ m ih=>intro i hi;rw[fA,hs i (by omega)];(cases e:ok i with|true=>rw[List.range'_succ,List.find?_cons];simp only[e,bT,cTq];exact ih (i+1) (by omega)|false=>rw[List.range'_succ,List.find?_cons];simp only[e,bF,cFq])
 have:=key n 0 (by omega);rwa[<-List.range_eq_range']at this
namespace M
def eqSh(a b:DShade):Bool:=(a.There==b.There)&&((a.Write==b.Write)&&((a.User==b.User)&&(decide (a.Page=b.Page)&&(decide (a.Frame=b.Frame)&&((a.Ready==b.Ready)&&true)))))
noncomputable def lineOk (h:DHost)(t:DLine):Bool:=there h t.Tag&&(inR 0 7 t.At&&eqSh t.What (shade h.Words (h.Guests.getD t.Tag.toNat default) t.At.toNat))
def hit(t:DLine)(g a:Int):Bool:=decide (t.Tag=g)&&decide (t.At=a)
def lineFor(xs:List DLine)(g a:Int):Int:=match (List.range xs.length).find? (λi=>!!hit (xs.getD i default) g a)with|some i=>(i:Int)|none=>-1
def first(xs:List DLine)(k:Nat):Bool:=(List.range k).all λj=>!hit (xs.getD j default) (xs.getD k default).Tag (xs.getD k default).At
noncomputable def tagsOk (h:DHost)(xs:List DLine):Bool:=hostOk h&&(decide (xs.length<=6)&&(List.range xs.length).all λk=>lineOk h (xs.getD k default)&&first xs k)
end M
theorem xO{a b:DShade}:M.eqSh a b=true↔a=b:=by obtain⟨t,w,u,p,f,r⟩:=a;obtain⟨t',w',u',p',f',r'⟩:=b;simp only[M.eqSh,DShade.mk.injEq,bA,beq_iff_eq,decide_eq_true_eq,and_true]
theorem aVx{a b:DShade}:M.eqSh a b=M.eqSh b a:=Bool.eq_iff_iff.2 (by rw[xO,xO];exact eq_comm)
theorem aHc{t:DLine}{g a:Int}:M.hit t g a=true↔t.Tag=g/\t.At=a:=by simp only[M.hit,bA,decide_eq_true_eq]
theorem aIt{xs:List DLine}{g a:Int}:-1<=M.lineFor xs g a/\M.lineFor xs g a<xs.length:=by unfold M.lineFor;split;{rename_i i hi;have:=List.mem_of_find?_eq_some hi;rw[List.mem_range]at this;omega};{omega}
theorem oV{xs:List DLine}{g a:Int}:decide (M.lineFor xs g a=-1)=(List.range xs.length).all λi=>!M.hit (xs.getD i default) g a:=by unfold M.lineFor;rw[Bool.eq_iff_iff,decide_eq_true_eq,List.all_eq_true];split;{rename_i i hi;have h1:=List.find?_some hi;have h2:=List.mem_of_find?_eq_some hi;constructor;{intro h;omega};{intro h;have:=h i h2;simp only[Bool.not_not]at h1;rw[h1]at this;cases this}};{rename_i hi;rw[List.find?_eq_none]at hi;exact⟨λ_ i h=>by have:=hi i h;simpa using this,λ_=>rfl⟩}
theorem aKo{xs:List DLine}{g a:Int}(h:M.lineFor xs g a≠-1):M.hit (xs.getD (M.lineFor xs g a).toNat default) g a=true:=by unfold M.lineFor at h ⊢;split at h;{rename_i i hi;have:=List.find?_some hi;simpa[hi]using this};{exact absurd rfl h}
theorem aIk{xs:List DLine}{g a:Int}(h:xs.length<=1048576):iI xs g a=some (M.lineFor xs g a):=by
 have key:=aWi (n:=xs.length) (step:=hZ xs g a) (λi=>(i:Int)) (λi=>!M.hit (xs.getD i default) g a) (.go ()) (λi=> .out (i:Int)) (λi hi=>by
  have h1:(i:Int)<(xs.length:Int):=(by omega);simp only[hZ,dT h1,cTq];rw[aJ ⟨by omega,h1⟩,iT];unfold M.hit;cases decide ((xs.getD i default).Tag=g)<;>cases decide ((xs.getD i default).At=a)<;>simp only[cTq,cFq,oB,JO.run,rM,Bool.and_true,Bool.and_false,bT,bF]<;>first|rfl|(rw[aF (by omega) (by omega)];rfl)) (by
  simp only[hZ];rw[dF (by omega),cFq])
 unfold iI M.lineFor;rw[show(0:Int)=((0:Nat):Int)from rfl,key];cases(List.range xs.length).find? (λi=>!!M.hit (xs.getD i default) g a)<;>rfl
theorem aXq{h:DHost}{t:DLine}(hs:SmallH h)(hk:HOk h):jE h t=some (M.lineOk h t):=by unfold jE M.lineOk;rw[aAi hk.three,oB];have e:M.there h t.Tag=(M.inR 0 2 t.Tag&&(h.Guests.getD t.Tag.toNat default).Live):=(by unfold M.there;rw[gJ.2 hk];rfl);rw[<-e];(cases ht:M.there h t.Tag with|false=>rfl|true=>have l:=oO hs ht;rw[cTq,Bool.true_and,aLp,oB];(cases hp:M.inR 0 7 t.At with|false=>rfl|true=>obtain⟨p0,p1⟩:=M.inR_iff.1 hp;have:=zR l (p:=t.At.toNat) (by omega);rw[show((t.At.toNat:Nat):Int)=t.At by omega]at this;rw[cTq,Bool.true_and,this];rfl))
theorem aLf{T:Type}[Inhabited T]{xs:List T}{i k:Nat}(h:i<k):(xs.take k).getD i default=xs.getD i default:=by simp only[List.getD_eq_getElem?_getD];rw[List.getElem?_take_of_lt h]
theorem aRn{xs:List DLine}{k:Nat}(hk:k<=xs.length):decide (M.lineFor (xs.take k) (xs.getD k default).Tag (xs.getD k default).At=-1)=M.first xs k:=by rw[oV,List.length_take,Nat.min_eq_left hk];unfold M.first;rw[Bool.eq_iff_iff,List.all_eq_true,List.all_eq_true];exact⟨λh i hi=>by have:=h i hi;rwa[aLf (List.mem_range.1 hi)]at this,λh i hi=>by rw[aLf (List.mem_range.1 hi)];exact h i hi⟩
theorem aMi{h:DHost}{xs:List DLine}(hs:SmallH h)(hl:xs.length<=1048576):jR h xs=some (M.tagsOk h xs):=by
 unfold jR M.tagsOk;rw[aMz hs,oB];cases hh:M.hostOk h with
 |false=>rfl
 |true=>
  have hk:=gJ.1 hh;rw[bT,cFq,Bool.true_and];by_cases h6:xs.length<=6
  · rw[dF (by omega),cFq,dT h6,Bool.true_and]
    have key:=kX (n:=xs.length) (step:=jD h xs) (λi=>(i:Int)) (λk=>M.lineOk h (xs.getD k default)&&M.first xs k) (.go ()) (.out false) (λi hi _=>by
     have h1:(i:Int)<(xs.length:Int):=(by omega);simp only[jD,dT h1,cTq];rw[aJ ⟨by omega,h1⟩,iT];show Option.bind (jE h (xs.getD i default)) _=_;rw[aXq hs hk,oB];cases M.lineOk h (xs.getD i default)with
     |false=>rfl
     |true=>rw[bT,cFq,aJ ⟨by omega,by omega,by omega⟩];simp only[Int.toNat_zero,Nat.sub_zero,List.drop_zero];rw[aIk (by rw[List.length_take];omega),oB,aRn (by omega),Bool.true_and,aF (by omega) (by omega)];cases M.first xs i<;>rfl) (λ_=>by
     simp only[jD];rw[dF (by omega),cFq])
    rw[show(0:Int)=((0:Nat):Int)from rfl,key];cases(List.range xs.length).all λk=>M.lineOk h (xs.getD k default)&&M.first xs k<;>rfl
  {rw[dT (by omega),dF h6];rfl}
theorem aYk{h:DHost}{xs:List DLine}(hs:SmallH h)(hl:xs.length<=1048576):mS h xs=some (M.tagsOk h xs):=by
 unfold mS M.tagsOk;rw[wY hs,oB];cases hh:M.hostOk h with
 |false=>rfl
 |true=>
  have hk:=gJ.1 hh;rw[bT,cFq,Bool.true_and];by_cases h6:xs.length<=6
  · rw[dF (by omega),cFq,dT h6,Bool.true_and]
    have key:=kX (n:=xs.length) (step:=iW h xs) (λi=>(i:Int)) (λk=>M.lineOk h (xs.getD k default)&&M.first xs k) (.go ()) (.out false) (λi hi _=>by
     have h1:(i:Int)<(xs.length:Int):=by omega
     have inner:=kX (n:=i) (step:=jC xs (i:Int)) (λj=>(j:Int)) (λj=>!M.hit (xs.getD j default) (xs.getD i default).Tag (xs.getD i default).At) (.go ()) (.out (.ret (.out false))) (λj hj _=>by
      have h2:(j:Int)<(i:Int):=(by omega);simp only[jC,dT h2,cTq,iT];rw[aJ ⟨by omega,by omega⟩];unfold M.hit;cases decide ((xs.getD j default).Tag=(xs.getD i default).Tag)with
      |false=>simp only[cFq,oB,JO.run,nF,Bool.false_and,bF,cTq];rw[aF (by omega) (by omega)];rfl
      |true=>
       rw[cTq,aJ ⟨by omega,by omega⟩];cases decide ((xs.getD j default).At=(xs.getD i default).At)with
       |false=>simp only[cFq,oB,JO.run,nF,Bool.and_false,bF,cTq];rw[aF (by omega) (by omega)];rfl
       |true=>rfl) (λ_=>by
      simp only[jC];rw[dF (by omega),cFq])
     simp only[iW,dT h1,cTq];rw[aJ ⟨by omega,h1⟩,iT,aMu hs,oB];unfold M.lineOk;cases ht:M.there h (xs.getD i default).Tag with
     |false=>rfl
     |true=>
      have hso:=aFn (g:=(xs.getD i default).Tag) hs;unfold M.shadowOf at hso;rw[ht,cTq]at hso;rw[bT,cFq,oC,oB];cases hp:M.inR 0 7 (xs.getD i default).At with
      |false=>rfl
      |true=>
       obtain⟨p0,p1⟩:=M.inR_iff.1 hp;rw[bT,cFq,hso,oB,aJ ⟨p0,by rw[oN];omega⟩,sJ (by omega)];show Option.bind (cond (!M.eqSh (M.shade h.Words (h.Guests.getD (xs.getD i default).Tag.toNat default) (xs.getD i default).At.toNat) (xs.getD i default).What) _ _) _=_;rw[aVx,show(0:Int)=((0:Nat):Int)from rfl,inner];cases M.eqSh (xs.getD i default).What (M.shade h.Words (h.Guests.getD (xs.getD i default).Tag.toNat default) (xs.getD i default).At.toNat)with
       |false=>rfl
       |true=>
        have:w64 ((i:Int)+1)=(i:Int)+1:=aF (by omega) (by omega);have e:M.first xs i=(List.range i).all λj=>!M.hit (xs.getD j default) (xs.getD i default).Tag (xs.getD i default).At:=rfl;rw[<-e];cases M.first xs i with
        |false=>rfl
        |true=>simp only[bT,cFq,cTq,oB,LO.val,JO.run,tE,Bool.true_and];rw[this];rfl) (λ_=>by
     simp only[iW];rw[dF (by omega),cFq])
    rw[show(0:Int)=((0:Nat):Int)from rfl,key];cases(List.range xs.length).all λk=>M.lineOk h (xs.getD k default)&&M.first xs k<;>rfl
  {rw[dT (by omega),dF h6];rfl}
namespace M
def sLets(s:DShade)(user write:Bool):Bool:=s.There&&(s.Write||!write)&&(s.User||!user)
def place(s:DShade)(addr:Int)(user write:Bool):Int×Int:=bif !sLets s user write then(-1,1)else bif decide (s.Frame=-1)then(-1,2)else bif write&&!s.Ready then(-1,3)else(s.Frame*8+addr%8,0)
noncomputable def shadowWalk (h:DHost)(g addr:Int)(user write:Bool):Int×Int:=bif there h g then(bif inR 0 63 addr then place (shade h.Words (h.Guests.getD g.toNat default) (addr/8).toNat) addr user write else(-1,-1))else(-1,-1)
end M
theorem at8{a f:Int}(h0:0<=a)(h1:a<=63)(f0:0<=f)(f1:f<20):w64 (w64 (f*8)+Int.tmod a 8)=f*8+a%8:=by rw[iM h0,aF (z:=f*8) (by omega) (by omega),aF (by omega) (by omega)]
theorem tJ{s:DShade}{a:Int}{user write:Bool}(h0:0<=a)(h1:a<=63)(f0:-1<=s.Frame)(f1:s.Frame<20):dI s a user write=some (M.place s a user write):=by obtain⟨t,w,u,p,f,r⟩:=s;simp only at f0 f1;unfold dI nK M.place M.sLets;by_cases e:f=-1;{simp only[dT e];cases t<;>cases w<;>cases u<;>cases user<;>cases write<;>rfl};{simp only[dF e,iU,at8 h0 h1 (by omega) f1];cases t<;>cases w<;>cases u<;>cases user<;>cases write<;>cases r<;>simp only[bT,bF,cTq,cFq,oB,JO.run,Bool.and_true,Bool.and_false,Bool.true_and,Bool.false_and,Bool.or_true,Bool.or_false,iU,at8 h0 h1 (show 0<=f by omega) f1]}
theorem zH{xs:List DShade}{s:DShade}{a:Int}{user write:Bool}(h0:0<=a)(h1:a<=63)(hl:xs.length=8)(hg:xs.getD (a/8).toNat default=s)(f0:-1<=s.Frame)(f1:s.Frame<20):lP xs a user write=some (M.place s a user write):=by unfold lP M.place M.sLets;have e8:w64 (Int.tdiv a 8)=a/8:=(by rw[Int.tdiv_eq_ediv_of_nonneg h0,aF (by omega) (by omega)]);rw[e8,aJ ⟨by omega,by omega⟩,hg];obtain⟨t,w,u,p,f,r⟩:=s;simp only at f0 f1;by_cases e:f=-1;{simp only[dT e,dT (p:=f<0) (by omega)];cases t<;>cases w<;>cases u<;>cases user<;>cases write<;>rfl};{simp only[dF e,dF (p:=f<0) (by omega)];cases t<;>cases w<;>cases u<;>cases user<;>cases write<;>cases r<;>simp only[bT,bF,cTq,cFq,oB,JO.run,Bool.and_true,Bool.and_false,Bool.true_and,Bool.false_and,Bool.or_true,Bool.or_false,rW,e8,hg,at8 h0 h1 (show 0<=f by omega) f1]}
theorem uZ{h:DHost}{g:Int}{x:DGuest}(l:Live h g x){p:Nat}(hp:p<8):-1<=(M.shade h.Words x p).Frame/\(M.shade h.Words x p).Frame<20:=by have he:=wX l hp;exact tY l (p:=(M.entry h.Words x p).Page.toNat) (by omega)
theorem aNi{h:DHost}{g a:Int}{user write:Bool}(hs:SmallH h):iA h g a user write=some (M.shadowWalk h g a user write):=by unfold iA M.shadowWalk;rw[aSu hs,oB];(cases ht:M.there h g with|false=>rfl|true=>have l:=oO hs ht;generalize hx:h.Guests.getD g.toNat default=x at l;rw[bT,cFq,uW,oB,cTq];(cases ha:M.inR 0 63 a with|false=>rfl|true=>obtain⟨a0,a1⟩:=M.inR_iff.1 ha;have hp:(a/8).toNat<8:=(by omega);have hf:=uZ l hp;rw[bT,cFq,cTq,Int.tdiv_eq_ediv_of_nonneg a0,aF (by omega) (by omega),show a/8=(((a/8).toNat:Nat):Int) by omega,zR l hp,oB,tJ a0 a1 hf.1 hf.2,oB,iT]))
namespace M
def withLine(xs:List DLine)(t:DLine):List DLine:=(bif decide (xs.length=6)then xs.drop 1 else xs)++[t]
noncomputable def shadeHG (h:DHost)(g a:Int):DShade:=shade h.Words (h.Guests.getD g.toNat default) (a/8).toNat
noncomputable def tagWalk (h:DHost)(xs:List DLine)(g a:Int)(user write:Bool):List DLine×Int×Int:=bif tagsOk h xs&&(there h g&&inR 0 63 a)then((bif decide (lineFor xs g (a/8)=-1)then withLine xs ⟨g,a/8,shadeHG h g a⟩else xs),place (shadeHG h g a) a user write)else([],-1,-1)
end M
theorem aUk{T:Type}{n:Nat}{d:T}{xs:List T}(h:n=xs.length):over (List.replicate n d) 0 (List.replicate n d).length xs=xs:=by subst h;simp[over]
theorem rB{xs:List DLine}(h:xs.length<=1048576):eU xs=some xs:=by unfold eU;rw[aJ ⟨by omega,by omega,by omega⟩,aUk (by omega)]
theorem aTp{T:Type}{xs:List T}:List.take (Int.toNat ((xs.length:Nat):Int)-Int.toNat (1:Int)) (List.drop (Int.toNat (1:Int)) xs)=xs.drop 1:=by rw[iT,show Int.toNat (1:Int)=1 from rfl,List.take_of_length_le (by rw[List.length_drop];omega)]
theorem aRy{xs:List DLine}{t:DLine}(h:xs.length<=6):kH xs t=some (M.withLine xs t):=by unfold kH M.withLine;by_cases e:xs.length=6;{rw[dT (by omega),dT e,cTq,cTq,aJ ⟨by omega,by omega,by omega⟩,aTp];simp only[oB,JO.run,kM];rw[rB (by rw[List.length_drop];omega),oB,aJ ⟨by simp only[List.length_drop,List.length_cons,List.length_nil];omega,by simp only[List.length_drop,List.length_cons,List.length_nil];omega⟩]};{rw[dF (by omega),dF e,cFq,cFq];simp only[oB,JO.run,kM];rw[rB (by omega),oB,aJ ⟨by simp only[List.length_cons,List.length_nil];omega,by simp only[List.length_cons,List.length_nil];omega⟩]}
theorem jX{h:DHost}{xs:List DLine}(ht:M.tagsOk h xs=true):HOk h/\xs.length<=6/\∀k,k<xs.length->M.lineOk h (xs.getD k default)=true/\M.first xs k=true:=by unfold M.tagsOk at ht;simp only[bA,decide_eq_true_eq,List.all_eq_true,List.mem_range]at ht;exact⟨gJ.1 ht.1,ht.2.1,λk hk=>ht.2.2 k hk⟩
theorem aOf{h:DHost}{t:DLine}(ht:M.lineOk h t=true):M.there h t.Tag=true/\(0<=t.At/\t.At<=7)/\t.What=M.shade h.Words (h.Guests.getD t.Tag.toNat default) t.At.toNat:=by unfold M.lineOk at ht;simp only[bA]at ht;exact⟨ht.1,M.inR_iff.1 ht.2.1,xO.1 ht.2.2⟩
theorem aLl{h:DHost}{xs:List DLine}(ht:M.tagsOk h xs=true){k:Nat}(hk:k<xs.length){g a:Int}(hh:M.hit (xs.getD k default) g (a/8)=true):(xs.getD k default).What=M.shadeHG h g a:=by obtain⟨h1,h2⟩:=aHc.1 hh;have:=(aOf ((jX ht).2.2 k hk).1).2.2;rw[this,h1,h2];rfl
theorem aIa{h:DHost}{xs:List DLine}{g a:Int}{user write:Bool}(hs:SmallH h)(hl:xs.length<=1048576):iF h xs g a user write=some (M.tagWalk h xs g a user write):=by unfold iF M.tagWalk;rw[aMi hs hl,oB];(cases ht:M.tagsOk h xs with|false=>rfl|true=>obtain⟨hk,h6,hall⟩:=jX ht;have e:M.there h g=(M.inR 0 2 g&&(h.Guests.getD g.toNat default).Live):=(by unfold M.there;rw[gJ.2 hk];rfl);rw[bT,cFq,aAi hk.three,oB,<-e,Bool.true_and];(cases hg:M.there h g with|false=>rfl|true=>have l:=oO hs hg;rw[bT,cFq,uW,oB,Bool.true_and];(cases ha:M.inR 0 63 a with|false=>rfl|true=>obtain⟨a0,a1⟩:=M.inR_iff.1 ha;have hp:(a/8).toNat<8:=(by omega);have hf:=uZ l hp;have hr:=aIt (xs:=xs) (g:=g) (a:=a/8);have hsh:=zR l hp;rw[show(((a/8).toNat:Nat):Int)=a/8 by omega]at hsh;rw[bT,cFq,cTq,Int.tdiv_eq_ediv_of_nonneg a0,aF (by omega) (by omega),aIk hl,oB];by_cases hn:M.lineFor xs g (a/8)=-1;{rw[dT hn,cTq,cTq,hsh,oB,tJ a0 a1 hf.1 hf.2,oB,aRy h6];rfl};{have hw:=aLl ht (by omega) (aKo hn);rw[dF hn,cFq,cFq,aJ ⟨by omega,by omega⟩];show Option.bind (dI (xs.getD (M.lineFor xs g (a/8)).toNat default).What a user write) _=_;rw[hw,tJ (s:=M.shadeHG h g a) a0 a1 hf.1 hf.2,oB,rB hl];rfl})))
theorem aIf{h:DHost}{xs:List DLine}{g a:Int}{user write:Bool}(hs:SmallH h)(hl:xs.length<=1048576):iP h xs g a user write=some (M.tagWalk h xs g a user write):=by
 unfold iP M.tagWalk;rw[aYk hs hl,oB];cases ht:M.tagsOk h xs with
 |false=>rfl
 |true=>
  obtain⟨hk,h6,hall⟩:=jX ht;rw[bT,cFq,aMu hs,oB,Bool.true_and];cases hg:M.there h g with
  |false=>rfl
  |true=>
   have l:=oO hs hg;have hso:=aFn (g:=g) hs;unfold M.shadowOf at hso;rw[hg,cTq]at hso;rw[bT,cFq,oC,oB,Bool.true_and];cases ha:M.inR 0 63 a with
   |false=>rfl
   |true=>
    obtain⟨a0,a1⟩:=M.inR_iff.1 ha;have hp:(a/8).toNat<8:=(by omega);have hf:=uZ l hp;have e8:w64 (Int.tdiv a 8)=a/8:=(by rw[Int.tdiv_eq_ediv_of_nonneg a0,aF (by omega) (by omega)]);generalize hz:List.replicate (Int.toNat (8:Int)) (DShade.mk false false false (0:Int) (0:Int) false)=zs;have hzl:zs.length=8:=(by rw[<-hz];simp);generalize hss:M.shadeHG h g a=s
    have key:=kX (n:=xs.length) (step:=iB xs g a) (λi=>((bif (List.range i).all (λj=>!M.hit (xs.getD j default) g (a/8))then zs else zs.set (a/8).toNat s),!(List.range i).all (λj=>!M.hit (xs.getD j default) g (a/8)),(i:Int))) (λ_=>true) (.go ((bif (List.range xs.length).all (λj=>!M.hit (xs.getD j default) g (a/8))then zs else zs.set (a/8).toNat s),!(List.range xs.length).all (λj=>!M.hit (xs.getD j default) g (a/8)))) (.go (zs,false)) (λi hi _=>by
     have h1:(i:Int)<(xs.length:Int):=(by omega);simp only[iB,dT h1,cTq,e8];rw[aJ ⟨by omega,h1⟩,iT,List.range_succ,List.all_append];simp only[List.all_cons,List.all_nil,Bool.and_true];generalize hA:(List.range i).all (λj=>!M.hit (xs.getD j default) g (a/8))=A;cases hh:M.hit (xs.getD i default) g (a/8)with
     |false=>have:(bif decide ((xs.getD i default).Tag=g)then decide ((xs.getD i default).At=a/8)else false)=false:=(by unfold M.hit at hh;cases e1:decide ((xs.getD i default).Tag=g)<;>simp_all);(cases e1:decide ((xs.getD i default).Tag=g)with|false=>simp only[cFq,oB,JO.run,iD,bF,Bool.and_true];rw[aF (by omega) (by omega)];rfl|true=>rw[e1]at this;rw[cTq,aJ ⟨by omega,h1⟩,show decide ((xs.getD i default).At=a/8)=false from this];simp only[cFq,oB,JO.run,iD,bF,Bool.and_true];rw[aF (by omega) (by omega)];rfl)
     |true=>
      obtain⟨q1,q2⟩:=aHc.1 hh;have hw:=aLl ht hi hh;rw[hss]at hw;have hset:∀ys:List DShade,List.set ys (a/8).toNat (DShade.mk (xs.getD i default).What.There (xs.getD i default).What.Write (xs.getD i default).What.User (xs.getD i default).What.Page (xs.getD i default).What.Frame (xs.getD i default).What.Ready)=ys.set (a/8).toNat s:=λys=>by rw[<-hw]
      rw[dT q1,cTq,aJ ⟨by omega,h1⟩,dT q2,cTq,aJ ⟨by omega,h1⟩,hset];have hlen:(bif A then zs else zs.set (a/8).toNat s).length=8:=(by cases A<;>simp[hzl]);rw[aJ ⟨by omega,by rw[hlen];omega⟩];simp only[oB,JO.run,iD,bT,Bool.and_false,cFq,bF];rw[aF (by omega) (by omega)];cases A<;>simp) (λ_=>by
     simp only[iB];rw[dF (by omega),cFq])
    have e:(List.range xs.length).all (λ_=>true)=true:=(by simp);rw[e,cTq]at key;simp only[List.range_zero,List.all_nil,cTq,bT]at key;rw[bT,cFq,cTq,aJ ⟨by simp only[List.length_nil];omega,by simp only[List.length_nil];omega⟩];rw[show(0:Int)=((0:Nat):Int)from rfl,key];simp only[oB,LO.val,JO.run,rL,List.nil_append,<-oV];by_cases hn:M.lineFor xs g (a/8)=-1;{have hss2:M.shade h.Words (h.Guests.getD g.toNat default) (a/8).toNat=s:=hss;rw[dT hn];simp only[bT,bF,cTq,e8];rw[hso,oB,aJ ⟨by omega,by rw[oN];omega⟩,sJ hp,hss2];have hll:(xs++[DLine.mk g (a/8) (DShade.mk s.There s.Write s.User s.Page s.Frame s.Ready)]).length=xs.length+1:=(by simp);rw[aJ ⟨by simp only[List.length_cons,List.length_nil];omega,by simp only[List.length_cons,List.length_nil];omega⟩];unfold M.withLine;by_cases e6:xs.length=6;{have ed:List.drop 1 (xs++[DLine.mk g (a/8) (DShade.mk s.There s.Write s.User s.Page s.Frame s.Ready)])=xs.drop 1++[DLine.mk g (a/8) (DShade.mk s.There s.Write s.User s.Page s.Frame s.Ready)]:=List.drop_append_of_le_length (by omega);rw[hll,dT (by omega),cTq,aJ ⟨by omega,by omega,by omega⟩,List.take_of_length_le (by rw[List.length_drop,hll];simp),ed];simp only[oB,JO.run,hU];rw[zH a0 a1 oN (sJ hp) hf.1 hf.2,oB,hss2,dT e6];rfl};{rw[hll,dF (by omega),cFq];simp only[oB,JO.run,hU];rw[zH a0 a1 oN (sJ hp) hf.1 hf.2,oB,hss2,dF e6];rfl}};{rw[dF hn];simp only[bT,bF,cFq,oB,JO.run,hU];have hss2:M.shade h.Words (h.Guests.getD g.toNat default) (a/8).toNat=s:=hss;rw[hss2]at hf;rw[zH a0 a1 (by rw[lS,hzl]) (by rw[aIw (by omega)]) hf.1 hf.2,oB]}
namespace M
def freeStep(ss:List DSlot)(s:List Int)(i:Nat):List Int:=bif decide (many ss (i:Int)=0)then s++[(i:Int)]else s
def free(ss:List DSlot):List Int:=(List.range 20).foldl (freeStep ss) []
noncomputable def hostFree (h:DHost):List Int:=bif hostOk h then free (slots h.Guests)else[]
end M
theorem aCu{ss:List DSlot}:M.free ss=((List.range 20).filter λ(i:Nat)=>decide (M.many ss (i:Int)=0)).map λ(i:Nat)=>(i:Int):=by
 have e:∀(xs:List Nat) (s:List Int),xs.foldl (M.freeStep ss) s=s++(xs.filter λ(i:Nat)=>decide (M.many ss (i:Int)=0)).map λ(i:Nat)=>(i:Int):=by
  intro xs;induction xs with
  |nil=>intro s;simp
  |cons x xs ih=>intro s;rw[List.foldl_cons,ih,List.filter_cons];unfold M.freeStep;cases decide (M.many ss (x:Int)=0)<;>simp
 unfold M.free;rw[e];simp
theorem aLa{ss:List DSlot}{s:List Int}{i n:Nat}(h:s.length<=n):(M.freeStep ss s i).length<=n+1:=by unfold M.freeStep;cases decide (M.many ss (i:Int)=0)<;>simp<;>omega
theorem aXv{ss:List DSlot}:(M.free ss).length<=20:=by rw[aCu,List.length_map];have:=List.length_filter_le (λ(i:Nat)=>decide (M.many ss (i:Int)=0)) (List.range 20);simpa using this
theorem bAx{h:DHost}(h3:h.Guests.length=3)(hall:h.Guests.all M.guestOk=true):jP h=some (M.takers (M.slots h.Guests)):=by
 have hin:∀(k:Nat) (g:DGuest) (xs:List Int) (h1:(k:Int)<(h.Guests.length:Int)) (h2:g∈h.Guests) (h3:h.Guests.getD k default=g) (h4:Tl (8*k) xs),
  iter (fU h (xs,(k:Int))) (xs,0)=some (.ret (.go (g.Pages.foldl M.bump xs)))/\Tl (8*k+g.Pages.length) (g.Pages.foldl M.bump xs):=by
  intro k g xs h1 h2 h3 h4;obtain⟨g1,g2⟩:=hO (List.all_eq_true.1 hall g h2)
  exact nQ (xs:=g.Pages) (step:=fU h (xs,(k:Int))) (λs j=>(s,j)) M.bump (λs=> .go s) (λj s=>Tl (8*k+j) s) (λj x s a1 a2 a3 a4=>by
   have hx:=List.all_eq_true.1 g1 x a2;have hr:=fI hx;have hl:=a4.len;refine⟨?_,a4.bump hx⟩;simp only[fU,iT,h3,dT a1,cTq];rw[aJ ⟨by omega,h1⟩,aJ ⟨by omega,h1⟩,aJ ⟨by omega,a1⟩,a3];unfold M.bump;by_cases e:x.Frame=-1;{rw[dF (p:=(0:Int)<=x.Frame) (by omega),dT e];simp only[cTq,cFq,oB,JO.run,nI];rw[aF (by omega) (by omega)]}
   · have q1:=a4.low x.Frame.toNat (by omega);have q2:=a4.top x.Frame.toNat (by omega);rw[dT (p:=(0:Int)<=x.Frame) (by omega),dF e,cTq,aJ ⟨by omega,by omega⟩,aJ ⟨by omega,by omega⟩,aF (by omega) (by omega)];simp only[cTq,cFq,oB,JO.run,nI];rw[aF (by omega) (by omega)]) (λs _=>by
   simp only[fU,iT,h3];rw[aJ ⟨by omega,h1⟩,dF (by omega),cFq]) xs h4
 have key:=(nQ (xs:=h.Guests) (step:=jB h) (λs j=>(s,j)) (λs g=>g.Pages.foldl M.bump s) (λs=> .go s) (λk s=>Tl (8*k) s) (λk g s a1 a2 a3 a4=>by
  obtain⟨b1,b2⟩:=hin k g s a1 a2 a3 a4;refine⟨?_,b2.mono (by have:=(hO (List.all_eq_true.1 hall g a2)).2;omega)⟩;simp only[jB,dT a1,cTq];rw[b1];simp only[oB,LO.val,JO.run,tX];rw[aF (by omega) (by omega)]) (λs _=>by
  simp only[jB];rw[dF (by omega),cFq]) (List.replicate 20 0) (Tl.zero.mono (by omega))).1
 unfold jP;rw[show Int.toNat (20:Int)=20 from rfl,key];simp only[oB,LO.val,JO.run,tL];rw[lN];rfl
theorem bCp{h:DHost}(hs:SmallH h)(hk:HOk h):jP h=some (M.takers (M.slots h.Guests)):=bAx hk.three hk.all
theorem aTk{ss:List DSlot}(hss:ss.all M.slotOk=true){i:Nat}(hi:i<20){s:List Int}(hl:s.length<=i){Y:Type}:
 (grd ((0:Int)<=(i:Int)/\(i:Int)<((List.length (M.takers ss):Nat):Int)) (cond (decide ((List.getD (M.takers ss) i default)=(0:Int))) (grd ((List.length s+List.length ([(i:Int)]:List Int))*8<=2^47/\List.length s+List.length ([(i:Int)]:List Int)<=2^47) (some (JO.go (s++([(i:Int)]:List Int))))) (some (JO.go s))):Option (JO (List Int) Y))=some (.go (M.freeStep ss s i)):=by
 have hl2:=wO hss;have e0:decide ((M.takers ss).getD i default=0)=decide (M.many ss (i:Int)=0):=(by rw[decide_eq_decide,yD hss hi];omega);rw[aJ ⟨by omega,by omega⟩,e0];unfold M.freeStep;(cases decide (M.many ss (i:Int)=0)with|true=>rw[cTq,cTq,aJ ⟨by simp;omega,by simp;omega⟩]|false=>rfl)
theorem aSx{h:DHost}(hs:SmallH h):kD h=some (M.hostFree h):=by
 unfold kD M.hostFree;rw[wY hs,oB];cases hh:M.hostOk h with
 |false=>rfl
 |true=>
  have hk:=gJ.1 hh;have hss:=aAo hk.all;rw[bT,cFq,bCp hs hk,oB]
  have key:=(aGk (n:=20) (step:=hC (M.takers (M.slots h.Guests))) (λs j=>(s,j)) (M.freeStep (M.slots h.Guests)) (λs=>JO.go s) (λi s=>s.length<=i) (λi s hi hs=>by
   refine⟨?_,aLa hs⟩;simp only[hC,iT];rw[dT (p:=(i:Int)<20) (by omega),cTq,aTk hss hi hs,oB];simp only[JO.run,qP];rw[aF (by omega) (by omega)]) (λs _=>by
   simp only[hC];rfl) [] (by simp)).1
  rw[key];rfl
namespace M
def zeros(xs:List Int):Bool:=(List.range 8).all λk=>decide (xs.getD k default=0)
def used(mem:List Int):Nat->Nat
 |0=>0
 |p+1=>used mem p+(bif zeros (page mem p)then 0 else 1)
def slotFor(mem free:List Int)(p:Nat):DSlot:=bif zeros (page mem p)then⟨-1,false,false⟩else⟨free.getD (used mem p) default,true,false⟩
def slotsFor(mem free:List Int)(n:Nat):List DSlot:=(List.range n).map (slotFor mem free)
def wordsFor(mem free:List Int)(ws:List Int):Nat->List Int
 |0=>ws
 |p+1=>bif zeros (page mem p)then wordsFor mem free ws p else over (wordsFor mem free ws p) ((free.getD (used mem p) default).toNat*8) 8 (page mem p)
noncomputable def gone (gs:List DGuest):Int:=bif (gs.getD 0 default).Live then(bif (gs.getD 1 default).Live then(bif (gs.getD 2 default).Live then-1 else 2)else 1)else 0
noncomputable def booted (h:DHost)(b:DBare):DHost:=⟨wordsFor b.Mem (free (slots h.Guests)) h.Words 8,h.Guests.set (gone h.Guests).toNat ⟨true,b.C,slotsFor b.Mem (free (slots h.Guests)) 8,b.In,b.Out⟩⟩
noncomputable def hostBoot (h:DHost)(b:DBare):DHost×Int×Bool:=bif hostOk h&&bareOk b&&(!decide (gone h.Guests=-1)&&decide (used b.Mem 8<=(free (slots h.Guests)).length))then(booted h b,gone h.Guests,true)else(⟨[],[]⟩,-1,false)
end M
theorem aVf{mem:List Int}{p q:Nat}(h:p<=q):M.used mem p<=M.used mem q:=by
 induction h with
 |refl=>exact Nat.le_refl _
 |step _ ih=>exact Nat.le_trans ih (by rw[M.used];omega)
theorem aEn{mem:List Int}{L n:Nat}:((List.range n).all λp=>M.zeros (M.page mem p)||decide (M.used mem p<L))=decide (M.used mem n<=L):=by
 apply dbe;simp only[List.all_eq_true,List.mem_range,Bool.or_eq_true,decide_eq_true_eq];constructor
 · intro h
   induction n with
   |zero=>simp[M.used]
   |succ n ih=>have h1:=ih λp hp=>h p (by omega);rcases h n (by omega)with h2|h2;{rw[M.used,h2];exact h1};{rw[M.used];cases M.zeros (M.page mem n)<;>simp<;>omega}
 {intro h p hp;(cases hz:M.zeros (M.page mem p)with|true=>exact .inl rfl|false=>have:=aVf (mem:=mem) (show p+1<=n by omega);rw[M.used,hz]at this;simp only[cFq]at this;exact .inr (by omega))}
theorem aFg{ss:List DSlot}{i:Nat}(hi:i<(M.free ss).length):0<=(M.free ss).getD i default/\(M.free ss).getD i default<20:=by have hm:=xM hi;rw[aCu]at hm;obtain⟨j,hj,e⟩:=List.mem_map.1 hm;have:=(List.mem_filter.1 hj).1;rw[List.mem_range]at this;rw[aCu,<-e];omega
theorem aZs{xs:List Int}{p:Nat}(h:p*8+8<=xs.length):(M.page xs p).length=8:=aLb h
theorem tU{mem ws:List Int}{ss:List DSlot}(hw:ws.length=160):∀{p:Nat},p<=8->M.used mem p<=(M.free ss).length->(M.wordsFor mem (M.free ss) ws p).length=160
 |0,_,_=>hw
 |p+1,h8,hu=>by have eu:M.used mem (p+1)=M.used mem p+(bif M.zeros (M.page mem p)then 0 else 1):=rfl;have ih:=tU (mem:=mem) (ss:=ss) hw (p:=p) (by omega) (by omega);unfold M.wordsFor;(cases hz:M.zeros (M.page mem p)with|true=>rw[cTq];exact ih|false=>rw[hz]at eu;simp only[cFq]at eu;have:=aFg (ss:=ss) (i:=M.used mem p) (by omega);rw[cFq,aVc (by omega),ih])
theorem aSv(gs:List DGuest):-1<=M.gone gs/\M.gone gs<=2:=by unfold M.gone;cases(gs.getD 0 default).Live<;>cases(gs.getD 1 default).Live<;>cases(gs.getD 2 default).Live<;>simp
theorem aUg{b:DBare}(h:M.bareOk b=true):b.Mem.length=64:=by unfold M.bareOk at h;simp only[bA]at h;exact aWg h.1.1.2
theorem aWv{T:Type}{xs ys:List T}{o k:Nat}(h:ys.length=8)(hk:8<=k):over xs o k ys=over xs o 8 ys:=by simp only[over,h];rw[Nat.min_eq_right hk,Nat.min_self]
theorem aYf{T:Type}[Inhabited T]{xs:List T}{u:Nat}:(xs.drop u).getD 0 default=xs.getD u default:=by simp[List.getD]
theorem aUy{T:Type}{xs:List T}{u n:Nat}(h:n=(xs.drop u).length):List.take (Int.toNat (n:Int)-Int.toNat 1) (List.drop (Int.toNat 1) (xs.drop u))=xs.drop (u+1):=by rw[show Int.toNat 1=1 from rfl,List.drop_drop,iT];apply List.take_of_length_le;rw[h];simp;omega
theorem aIs{mem:List Int}{p:Nat}(h:p<8):List.take (Int.toNat (w64 ((w64 ((p:Int)+1))*8))-Int.toNat (w64 ((p:Int)*8))) (List.drop (Int.toNat (w64 ((p:Int)*8))) mem)=M.page mem p:=by rw[aF (z:=(p:Int)+1) (by omega) (by omega),aF (z:=((p:Int)+1)*8) (by omega) (by omega),aF (z:=(p:Int)*8) (by omega) (by omega)];rw[show Int.toNat (((p:Int)+1)*8)-Int.toNat ((p:Int)*8)=8 by omega,show Int.toNat ((p:Int)*8)=p*8 by omega];rfl
theorem bDv{h:DHost}(hk:HOk h):iter (dN h) (-1,2)=some (.ret (.go (M.gone h.Guests))):=by
 have h3:=hk.three
 have st:∀(i:Nat) (a:Int),i<3->dN h (a,(i:Int))=some (.next (bif (h.Guests.getD i default).Live then a else(i:Int),(i:Int)-1)):=λi a hi=>by
  simp only[dN,iT];rw[dT (p:=(0:Int)<=(i:Int)) (by omega),cTq,aJ ⟨by omega,by omega⟩];cases(h.Guests.getD i default).Live
  all_goals
   simp only[bT,bF,cTq,cFq,oB,JO.run,pC];rw[aF (by omega) (by omega)]
 have sn:∀a:Int,dN h (a,-1)=some (.ret (.go a)):=λa=>by simp only[dN];rfl
 rw[show(2:Int)=((2:Nat):Int)from rfl,fA,st 2 _ (by omega)];simp only;rw[show((2:Nat):Int)-1=((1:Nat):Int)from rfl,fA,st 1 _ (by omega)];simp only;rw[show((1:Nat):Int)-1=((0:Nat):Int)from rfl,fA,st 0 _ (by omega)];simp only;rw[show((0:Nat):Int)-1=-1 from rfl,fA,sn];unfold M.gone;cases(h.Guests.getD 0 default).Live<;>cases(h.Guests.getD 1 default).Live<;>cases(h.Guests.getD 2 default).Live<;>rfl
theorem aVp{b:DBare}{s:List Int×List Int×List DSlot×Int}{p:Nat}(hp:p<8)(hs:s.2.2.2=(p:Int))(hm:b.Mem.length=64):iter (eH b s) (true,0)=some (.ret (.go (M.zeros (M.page b.Mem p)))):=by
 have hl:=aZs (xs:=b.Mem) (p:=p) (by omega)
 have key:=kX (n:=8) (step:=eH b s) (λk=>((List.range k).all λj=>decide ((M.page b.Mem p).getD j default=0),(k:Int))) (λ_=>true) (JO.go (M.zeros (M.page b.Mem p))) (.go true) (λk hk _=>by
  simp only[eH,hs,aIs hp,iT];rw[dT (p:=(k:Int)<8) (by omega),cTq];have er:((List.range (k+1)).all λj=>decide ((M.page b.Mem p).getD j default=0))=(((List.range k).all λj=>decide ((M.page b.Mem p).getD j default=0))&&decide ((M.page b.Mem p).getD k default=0)):=(by rw[List.range_succ,List.all_append];simp);rw[er];cases((List.range k).all λj=>decide ((M.page b.Mem p).getD j default=0))with
  |true=>rw[cTq,aJ ⟨by omega,by omega⟩];simp only[oB,JO.run,kB,Bool.true_and,cTq];rw[aF (by omega) (by omega)];rfl
  |false=>simp only[cFq,oB,JO.run,kB,Bool.false_and,cTq];rw[aF (by omega) (by omega)];rfl) (λ_=>by
  simp only[eH];rfl)
 rw[show(List.range 8).all (λ_=>true)=true by simp,cTq]at key;exact key
theorem aRz{b:DBare}{ws:List Int}{ss:List DSlot}{g:Int}(hg:0<=g)(hw:ws.length=160)(hm:b.Mem.length=64):
 iter (dU b g) (ws,M.free ss,[],0)=some (.ret (bif decide (M.used b.Mem 8<=(M.free ss).length)then .go (M.wordsFor b.Mem (M.free ss) ws 8,M.slotsFor b.Mem (M.free ss) 8)else .out (⟨[],[]⟩,-1,false))):=by
 have hfl:=aXv (ss:=ss)
 have key:=kX (n:=8) (step:=dU b g) (λp=>(M.wordsFor b.Mem (M.free ss) ws p,(M.free ss).drop (M.used b.Mem p),M.slotsFor b.Mem (M.free ss) p,(p:Int))) (λp=>M.zeros (M.page b.Mem p)||decide (M.used b.Mem p<(M.free ss).length))
  (JO.go (M.wordsFor b.Mem (M.free ss) ws 8,M.slotsFor b.Mem (M.free ss) 8)) (.out (⟨[],[]⟩,-1,false)) (λp hp ho=>by
  have hu:M.used b.Mem p<=(M.free ss).length:=(by have:((List.range p).all λp=>M.zeros (M.page b.Mem p)||decide (M.used b.Mem p<(M.free ss).length))=true:=(by simp only[List.all_eq_true,List.mem_range];exact ho);rw[aEn,decide_eq_true_eq]at this;exact this);have hlen:=tU (mem:=b.Mem) (ss:=ss) hw (p:=p) (by omega) hu;have hpl:=aZs (xs:=b.Mem) (p:=p) (by omega);have hsl:(M.slotsFor b.Mem (M.free ss) p).length=p:=(by simp[M.slotsFor]);have es:M.slotsFor b.Mem (M.free ss) (p+1)=M.slotsFor b.Mem (M.free ss) p++[M.slotFor b.Mem (M.free ss) p]:=(by simp[M.slotsFor,List.range_succ]);have ew:M.wordsFor b.Mem (M.free ss) ws (p+1)=(bif M.zeros (M.page b.Mem p)then M.wordsFor b.Mem (M.free ss) ws p else over (M.wordsFor b.Mem (M.free ss) ws p) (((M.free ss).getD (M.used b.Mem p) default).toNat*8) 8 (M.page b.Mem p)):=rfl;have eu:M.used b.Mem (p+1)=M.used b.Mem p+(bif M.zeros (M.page b.Mem p)then 0 else 1):=rfl;have b1:w64 ((p:Int)*8)=(p:Int)*8:=aF (by omega) (by omega);have b2:w64 ((w64 ((p:Int)+1))*8)=((p:Int)+1)*8:=(by rw[aF (z:=(p:Int)+1) (by omega) (by omega),aF (by omega) (by omega)]);simp only[dU];rw[dT (p:=(p:Int)<8) (by omega),cTq,dT hg,cTq,aJ ⟨by omega,by omega,by omega⟩,aVp hp rfl hm];simp only[oB,LO.val,JO.run,oZ,aIs hp];cases hz:M.zeros (M.page b.Mem p)with
  |true=>have:(⟨-1,false,false⟩:DSlot)=M.slotFor b.Mem (M.free ss) p:=(by unfold M.slotFor;rw[hz];rfl);rw[hz,cTq]at ew eu;rw[cTq,aJ ⟨by simp;omega,by simp;omega⟩];simp only[oB,JO.run,lD,Bool.true_or,cTq];rw[aF (by omega) (by omega),this,<-es,ew,eu];rfl
  |false=>
   have:(⟨(M.free ss).getD (M.used b.Mem p) default,true,false⟩:DSlot)=M.slotFor b.Mem (M.free ss) p:=(by unfold M.slotFor;rw[hz];rfl);rw[hz,cFq]at ew eu;rw[cFq,Bool.false_or];by_cases e:M.used b.Mem p<(M.free ss).length;{have hr:=aFg (ss:=ss) (i:=M.used b.Mem p) e;have hdl:((M.free ss).drop (M.used b.Mem p)).length=(M.free ss).length-M.used b.Mem p:=(by simp);rw[dF (p:=(((List.drop (M.used b.Mem p) (M.free ss)).length:Nat):Int)=0) (by omega),cFq,show Int.toNat (0:Int)=0 from rfl,aYf];rw[aF (z:=(M.free ss).getD (M.used b.Mem p) default*8) (by omega) (by omega),aJ ⟨by omega,by omega⟩,aJ ⟨by omega,by omega,by omega⟩,aJ ⟨by omega,by omega⟩,aJ ⟨by simp;omega,by simp;omega⟩,aJ ⟨by omega,by omega,by omega⟩];simp only[oB,JO.run,lD];rw[aF (by omega) (by omega),this,<-es,aUy rfl,aWv hpl (by omega),dT e,ew,eu];rw[show Int.toNat ((M.free ss).getD (M.used b.Mem p) default*8)=((M.free ss).getD (M.used b.Mem p) default).toNat*8 by omega];rfl}
   · rw[dF e,dT (p:=(((List.drop (M.used b.Mem p) (M.free ss)).length:Nat):Int)=0) (by simp;omega)];rfl) (λ_=>by
  simp only[dU];rfl)
 rw[aEn]at key;exact key
theorem aSj{h:DHost}{b:DBare}(hs:SmallH h)(hb:SmallB b):kC h b=some (M.hostBoot h b):=by unfold kC M.hostBoot;rw[wY hs,oB];(cases hh:M.hostOk h with|false=>rfl|true=>have hk:=gJ.1 hh;have h3:=hk.three;rw[bT,cFq,aYy hb,oB,Bool.true_and];(cases hbk:M.bareOk b with|false=>rfl|true=>have hm:=aUg hbk;have hr:=aSv h.Guests;have:=hb.i;have:=hb.o;rw[bT,cFq,bDq hs hk.all,oB,bDv hk,Bool.true_and];simp only[oB,LO.val,JO.run,qU];have ef:M.hostFree h=M.free (M.slots h.Guests):=(by unfold M.hostFree;rw[hh];rfl);rw[aSx hs,oB,ef,aTg hb.c,oB,aJ ⟨by omega,by omega⟩,aJ ⟨by omega,by omega⟩];by_cases e:M.gone h.Guests=-1;{rw[dT e,e];rw[show iter (dU b (-1)) (h.Words,M.free (M.slots h.Guests),[],0)=some (.ret (.go (h.Words,[]))) by rw[fA];rfl];rfl};{rw[aRz (by omega) hk.len hm,dF e,bF,Bool.true_and];(cases decide (M.used b.Mem 8<=(M.free (M.slots h.Guests)).length)with|false=>rfl|true=>simp only[cTq,oB,LO.val,JO.run,qK];rw[dF (by omega),cFq,aJ ⟨by omega,by omega⟩];rfl)}))
theorem aBr{a b:Int}(ha:0<=a)(hb:0<b):0<=Int.tmod a b/\Int.tmod a b<b:=by rw[Int.tmod_eq_emod_of_nonneg ha];exact⟨Int.emod_nonneg _ (by omega),Int.emod_lt_of_pos _ hb⟩
theorem bBd:iK=some true:=rfl
def enc(e:DEntry):Int:=8*e.Page+(bif e.There then 1 else 0)+(bif e.Write then 2 else 0)+(bif e.User then 4 else 0)
theorem aTa{p:Int}(h0:0<=p)(h7:p<=7):p=0\/p=1\/p=2\/p=3\/p=4\/p=5\/p=6\/p=7:=by omega
theorem aNs{e:DEntry}(h0:0<=e.Page)(h7:e.Page<=7):cI e=some (enc e):=by obtain⟨t,w,u,p⟩:=e;rcases aTa h0 h7 with h|h|h|h|h|h|h|h<;>simp only at h<;>subst h<;>cases t<;>cases w<;>cases u<;>rfl
theorem aFk{e:DEntry}(h:¬(0<=e.Page/\e.Page<=7)):cI e=some (-1):=by unfold cI bM;rw[show∀b y:Bool,(cond b (some y) (some false))=some (b&&y)from λb y=>by cases b<;>rfl];have e1:(decide (0<=e.Page)&&decide (e.Page<=7))=false:=(by rw[Bool.eq_false_iff];simp;omega);rw[e1];rfl
theorem aNy(a b:Nat)(ha:a<9223372036854775808)(hb:b<9223372036854775808):bits .xor .i64 (a:Int) (b:Int)=((a^^^b:Nat):Int):=by have hx:a^^^b<2^63:=Nat.xor_lt_two_pow (by omega) (by omega);have h1:(BitVec.ofInt 64 (a:Int)).toNat=a:=(by rw[BitVec.ofInt_natCast,BitVec.toNat_ofNat];exact Nat.mod_eq_of_lt (by omega));have h2:(BitVec.ofInt 64 (b:Int)).toNat=b:=(by rw[BitVec.ofInt_natCast,BitVec.toNat_ofNat];exact Nat.mod_eq_of_lt (by omega));show IntKind.i64.wrap ((BitVec.ofInt 64 (a:Int)^^^BitVec.ofInt 64 (b:Int)).toNat:Int)=_;rw[BitVec.toNat_xor,h1,h2];exact vE (by omega) (by omega)
theorem bEk{a b:Int}(a0:0<=a)(a1:a<=9223372036854775807)(b0:0<=b)(b1:b<=9223372036854775807):0<=bits .xor .i64 a b:=by obtain⟨x,rfl⟩:=Int.eq_ofNat_of_zero_le a0;obtain⟨y,rfl⟩:=Int.eq_ofNat_of_zero_le b0;rw[aNy x y (by omega) (by omega)];omega
theorem aHm{b:List Int}(hb:∀x∈b,0<=x/\x<=255)(i:Nat):0<=b.getD i default/\b.getD i default<=255:=by by_cases h:i<b.length;{rw[List.getD,List.getElem?_eq_getElem h];exact hb _ (List.getElem_mem h)};{rw[List.getD,List.getElem?_eq_none (by omega)];exact⟨by decide,by decide⟩}
theorem bBv{r:Dl20Rd}{n:Int}(hn:1<=n)(h0:0<=r.p)(h1:r.p<=1000000)(hb:∀x∈r.b,0<=x/\x<=255):∃v,aA r n=some (⟨r.b,r.p+1⟩,v)/\0<=v/\v<n:=by
 unfold aA;have e1:w64 (r.p+1)=r.p+1:=aF (by omega) (by omega);rw[e1,show r.p+1-1=r.p by omega,aF (z:=r.p) (by omega) (by omega),decide_eq_false (show¬n<1 by omega),cond_false];by_cases hl:((r.b.length:Nat):Int)=0;{rw[decide_eq_true hl];exact⟨_,rfl,by omega,by omega⟩}
 · rw[decide_eq_false hl,cond_false]
   have hp:(0:Int)<((r.b.length:Nat):Int):=(by omega);have hn0:n≠0:=(by omega);by_cases hk:r.p<((r.b.length:Nat):Int)
   · rw[decide_eq_true hk,cond_true,aJ ⟨h0,hk⟩,aJ hn0]
     have g:=aHm hb r.p.toNat
     rw[vE (by omega) (by omega)];exact⟨_,rfl,aBr g.1 (by omega)⟩
   {have e2:w64 (w64 (r.p*7)+3)=r.p*7+3:=(by rw[aF (z:=r.p*7) (by omega) (by omega),aF (by omega) (by omega)]);rw[decide_eq_false hk,cond_false,e2,aJ hl,aJ (aBr h0 hp),aJ hl,aJ (aBr (by omega) hp),aJ hl,aJ hn0];have g1:=aHm hb (Int.toNat (Int.tmod r.p ((r.b.length:Nat):Int)));have g2:=aHm hb (Int.toNat (Int.tmod (r.p*7+3) ((r.b.length:Nat):Int)));generalize r.b.getD (Int.toNat (Int.tmod r.p ((r.b.length:Nat):Int))) default=X at g1 ⊢;generalize r.b.getD (Int.toNat (Int.tmod (r.p*7+3) ((r.b.length:Nat):Int))) default=Y at g2 ⊢;have q:Int.tdiv r.p ((r.b.length:Nat):Int)=r.p/((r.b.length:Nat):Int):=Int.tdiv_eq_ediv_of_nonneg h0;have q0:0<=r.p/((r.b.length:Nat):Int):=Int.ediv_nonneg h0 (by omega);have q1:r.p/((r.b.length:Nat):Int)<=r.p:=Int.ediv_le_self _ h0;rw[q];generalize r.p/((r.b.length:Nat):Int)=Q at q0 q1 ⊢;have k1:IntKind.wrap .i64 X=X:=vE (by omega) (by omega);have k2:IntKind.wrap .i64 Y=Y:=vE (by omega) (by omega);have k3:w64 (w64 (w64 (w64 (X*131)+w64 (Y*1117))+w64 (r.p*29))+w64 (w64 Q*53))=X*131+Y*1117+r.p*29+Q*53:=(by rw[aF (z:=X*131) (by omega) (by omega),aF (z:=Y*1117) (by omega) (by omega),aF (z:=X*131+Y*1117) (by omega) (by omega),aF (z:=r.p*29) (by omega) (by omega),aF (z:=X*131+Y*1117+r.p*29) (by omega) (by omega),aF (z:=Q) (by omega) (by omega),aF (z:=Q*53) (by omega) (by omega),aF (by omega) (by omega)]);rw[k1,k2,k3];have a0:0<=X*131+Y*1117+r.p*29+Q*53:=(by omega);have a1:X*131+Y*1117+r.p*29+Q*53<=9223372036854775807:=(by omega);generalize X*131+Y*1117+r.p*29+Q*53=A at a0 a1 ⊢;have d:Int.tdiv A 64=A/64:=Int.tdiv_eq_ediv_of_nonneg a0;rw[d,aF (z:=A/64) (by omega) (by omega)];exact⟨_,rfl,aBr (bEk a0 a1 (by omega) (by omega)) (by omega)⟩}
structure Rdr (m : Int) (r : Dl20Rd) : Prop where
 b:∀x∈r.b,0<=x/\x<=255
 p0:0<=r.p
 p1:r.p<=m
theorem Rdr.up{m n:Int}{r:Dl20Rd}(h:Rdr m r)(hn:m<=n):Rdr n r:=⟨h.b,h.p0,Int.le_trans h.p1 hn⟩
theorem aL{m n:Int}{r:Dl20Rd}(R:Rdr m r)(hm:m<=1000000)(hn:1<=n):Ex (aA r n) (λv=>Rdr (m+1) v.1/\0<=v.2/\v.2<n):=by obtain⟨b,p0,p1⟩:=R;obtain⟨v,h1,h2,h3⟩:=bBv hn p0 (by omega) b;exact⟨_,h1,⟨b,by show 0<=r.p+1;omega,by show r.p+1<=m+1;omega⟩,h2,h3⟩
theorem aFo{m:Int}{r:Dl20Rd}(R:Rdr m r)(hm:m<=999999):Ex (cA r) (λv=>Rdr (m+2) v.1/\0<=v.2/\v.2<=4095):=by unfold cA;refine Ex.bind (aL R (by omega) (by omega)) λv1 ⟨R1,a1,b1⟩=>?_;refine Ex.bind (aL R1 (by omega) (by omega)) λv2 ⟨R2,a2,b2⟩=>?_;rw[aF (z:=v1.2*256) (by omega) (by omega),aF (by omega) (by omega)];exact Ex.ret ⟨R2.up (by omega),by show 0<=v1.2*256+v2.2;omega,by show v1.2*256+v2.2<=4095;omega⟩
theorem bEb{xs:List Int}(h:∀x∈xs,0<=x/\x<=255):Ex (fQ xs) (λr=>Rdr 0 r):=by unfold fQ;refine Ex.join (P:=λs=>∀x∈s,0<=x/\x<=255) ?_ λs hs=>Ex.ret ⟨hs,Int.le_refl _,Int.le_refl _⟩;refine Ex.cond (λhc=>?_) λhc=>Ex.ret ⟨_,rfl,h⟩;have:=of_decide_eq_true hc;exact Ex.grd ⟨by omega,by omega,by omega⟩ (Ex.ret ⟨_,rfl,λx hx=>h x (List.mem_of_mem_drop (List.mem_of_mem_take hx))⟩)
theorem aJi{m n:Int}{r:Dl20Rd}(R:Rdr m r)(hm:m<=1000000):Ex (bH r n) (λv=>Rdr (m+1) v.1):=by unfold bH;refine Ex.cond (λh=>?_) λ_=>Ex.ret (R.up (by omega));have:=of_decide_eq_true h;exact Ex.bind (aL R hm (by omega)) λv1 ⟨R1,_,_⟩=>Ex.ret R1
theorem aUe{m n:Int}{r:Dl20Rd}(R:Rdr m r)(hm:m<=1000000):Ex (bH r n) (λv=>Rdr (m+1) v.1/\(n<=0->v.2=false)):=by unfold bH;refine Ex.cond (λh=>?_) λ_=>Ex.ret ⟨R.up (by omega),λ_=>rfl⟩;have:=of_decide_eq_true h;exact Ex.bind (aL R hm (by omega)) λv1 ⟨R1,_,_⟩=>Ex.ret ⟨R1,λ_=>by omega⟩
theorem aCk(e:DEntry):Ex (cI e) (λ_=>True):=by by_cases h:0<=e.Page/\e.Page<=7;{rw[aNs h.1 h.2];exact Ex.ret trivial};{rw[aFk h];exact Ex.ret trivial}
theorem aZi{m:Int}(hm:m<=990000)(h0:0<=m)(s:List Int×Int×List Int×Int)(hs:0<=s.2.2.2/\s.2.2.2<=64/\Rdr (m+8*s.2.2.2) ⟨s.1,s.2.1⟩/\(s.2.2.1.length:Int)=s.2.2.2):
 Ex (nB s) (λo=>(∃s',o= .next s'/\(0<=s'.2.2.2/\s'.2.2.2<=64/\Rdr (m+8*s'.2.2.2) ⟨s'.1,s'.2.1⟩/\(s'.2.2.1.length:Int)=s'.2.2.2)/\64-s'.2.2.2.toNat<64-s.2.2.2.toNat)\/∃t,o= .ret (.go t)/\(Rdr (m+512) ⟨t.1,t.2.1⟩/\t.2.2.length=64)):=by
 obtain⟨b,p,mem,k⟩:=s;obtain⟨k0,k1,R,hl⟩:=hs;simp only at k0 k1 R hl;unfold nB;refine Ex.cond (λhk=>?_) λhk=>?_
 · have hk:k<64:=of_decide_eq_true hk
   refine Ex.join (P:=λs8:List Int×Int×Int=>Rdr (m+8*k+3) ⟨s8.1,s8.2.1⟩) ?_ λs8 R8=>?_;{refine Ex.bind (aL R (by omega) (by omega)) λv1 ⟨R1,a1,b1⟩=>?_;refine Ex.cond (λ_=>?_) λ_=>?_;{exact Ex.bind (aFo R1 (by omega)) λv2 ⟨R2,_,_⟩=>Ex.ret ⟨_,rfl,R2.up (by omega)⟩};{exact Ex.ret ⟨_,rfl,R1.up (by omega)⟩}}
   · unfold tI
     refine Ex.join (P:=λs9:List Int×Int×Int=>Rdr (m+8*k+7) ⟨s9.1,s9.2.1⟩) ?_ λs9 R9=>?_
     · have e:∀Q:JO (List Int×Int×Int) (LO (List Int×Int×List Int×Int) (JO (List Int×Int×List Int) (Dl20Rd×List Int)))->Prop,(∀v:Dl20Rd×Int,∀w,Rdr (m+8*k+7) v.1->Q (.go (v.1.b,v.1.p,w)))->Ex (Option.bind (aA (Dl20Rd.mk s8.1 s8.2.1) (5:Int)) λv10=>
        Option.bind (aA v10.1 (4:Int)) λv11=>
        Option.bind (aA v11.1 (3:Int)) λv12=>
        Option.bind (aA v12.1 (8:Int)) λv13=>
        Option.bind (cI (DEntry.mk (decide ((0:Int)<v10.2)) (decide ((0:Int)<v11.2)) (decide ((0:Int)<v12.2)) v13.2)) λv14=>
        some (.go (v13.1.b,v13.1.p,v14))) Q:=λQ hQ=>by
        refine Ex.bind (aL R8 (by omega) (by omega)) λv1 ⟨R1,a1,b1⟩=>?_;refine Ex.bind (aL R1 (by omega) (by omega)) λv2 ⟨R2,a2,b2⟩=>?_;refine Ex.bind (aL R2 (by omega) (by omega)) λv3 ⟨R3,a3,b3⟩=>?_;refine Ex.bind (aL R3 (by omega) (by omega)) λv4 ⟨R4,a4,b4⟩=>?_;refine Ex.bind (aCk _) λv5 _=>?_;exact Ex.ret (hQ v4 v5 (R4.up (by omega)))
       refine Ex.cond (λ_=>?_) λ_=>?_;{exact e _ λv w h=>⟨_,rfl,h⟩};{refine Ex.cond (λ_=>?_) λ_=>?_;{exact e _ λv w h=>⟨_,rfl,h⟩};{exact Ex.ret ⟨_,rfl,R8.up (by omega)⟩}}
     · unfold sX
       refine Ex.grd ⟨by simp only[List.length_cons,List.length_nil];omega,by simp only[List.length_cons,List.length_nil];omega⟩ (Ex.ret (.inl ⟨_,rfl,⟨?_,?_,?_,?_⟩,?_⟩));all_goals simp only[aF (z:=k+1) (by omega) (by omega),List.length_append,List.length_cons,List.length_nil]
       {omega};{omega};{exact R9.up (by omega)};{omega};{omega}
 {have hk:¬k<64:=of_decide_eq_false hk;exact Ex.ret (.inr ⟨_,rfl,R.up (by omega),by show mem.length=64;omega⟩)}
theorem aZk{m n:Int}{r:Dl20Rd}(R:Rdr m r)(h0:0<=m)(hm:m<=990000):Ex (jQ r n) (λv=>Rdr (m+600) v.1/\v.2.length<=64/\(n<=0->v.2.length=64)):=by unfold jQ;refine Ex.join (Ex.loopv (λs:List Int×Int×List Int×Int=>0<=s.2.2.2/\s.2.2.2<=64/\Rdr (m+8*s.2.2.2) ⟨s.1,s.2.1⟩/\(s.2.2.1.length:Int)=s.2.2.2) (λs=>64-s.2.2.2.toNat) (λt=>Rdr (m+512) ⟨t.1,t.2.1⟩/\t.2.2.length=64) ⟨by simp,by simp,R.up (by simp),by simp⟩ (aZi hm h0)) λs1 ⟨R1,hl⟩=>?_;unfold tA;refine Ex.join (P:=λs2:List Int×Int×List Int=>Rdr (m+600) ⟨s2.1,s2.2.1⟩/\s2.2.2.length<=64/\(n<=0->s2.2.2.length=64)) ?_ λs2 h2=>Ex.ret h2;refine Ex.bind (aUe R1 (by omega)) λv3 ⟨R3,o3⟩=>?_;refine Ex.cond (λhv=>?_) λ_=>?_;{refine Ex.bind (aL R3 (by omega) (by omega)) λv4 ⟨R4,a4,b4⟩=>?_;refine Ex.cond (λ_=>?_) λ_=>?_;{exact Ex.grd ⟨by omega,by omega,by omega⟩ (Ex.ret ⟨_,rfl,R4.up (by omega),by rw[List.length_take];omega,λhn=>by rw[o3 hn]at hv;cases hv⟩)};{refine Ex.bind (aL R4 (by omega) (by omega)) λv5 ⟨R5,a5,b5⟩=>?_;refine Ex.bind (aL R5 (by omega) (by omega)) λv6 ⟨R6,a6,b6⟩=>?_;exact Ex.grd ⟨by omega,by omega⟩ (Ex.ret ⟨_,rfl,R6.up (by omega),by rw[lS];omega,λhn=>by rw[o3 hn]at hv;cases hv⟩)}};{exact Ex.ret ⟨_,rfl,R3.up (by omega),by show s1.2.2.length<=64;omega,λ_=>hl⟩}
theorem bBr{Q:Bool->Prop}(h:Q true):Ex iK Q:=⟨_,bBd,h⟩
theorem aTm{m:Int}(hm:m<=990000)(h0:0<=m)(s:List Int×Int×List Int×Int)(hs:0<=s.2.2.2/\s.2.2.2<=4/\Rdr (m+8*s.2.2.2) ⟨s.1,s.2.1⟩/\(s.2.2.1.length:Int)=s.2.2.2):
 Ex (kU s) (λo=>(∃s',o= .next s'/\(0<=s'.2.2.2/\s'.2.2.2<=4/\Rdr (m+8*s'.2.2.2) ⟨s'.1,s'.2.1⟩/\(s'.2.2.1.length:Int)=s'.2.2.2)/\4-s'.2.2.2.toNat<4-s.2.2.2.toNat)\/∃t,o= .ret (.go t)/\(Rdr (m+32) ⟨t.1,t.2.1⟩/\t.2.2.length=4)):=by
 obtain⟨b,p,rs,k⟩:=s;obtain⟨k0,k1,R,hl⟩:=hs;simp only at k0 k1 R hl;unfold kU;refine Ex.cond (λhk=>?_) λhk=>?_
 · have hk:k<4:=of_decide_eq_true hk
   refine Ex.bind (aL R (by omega) (by omega)) λv1 ⟨R1,a1,b1⟩=>?_;refine Ex.bind (aL R1 (by omega) (by omega)) λv2 ⟨R2,a2,b2⟩=>?_;refine Ex.bind (aFo R2 (by omega)) λv3 ⟨R3,a3,b3⟩=>?_;refine Ex.bind (aL R3 (by omega) (by omega)) λv4 ⟨R4,a4,b4⟩=>?_;refine Ex.grd ⟨a4,by simp only[List.length_cons,List.length_nil];omega⟩ ?_;refine Ex.grd ⟨by simp only[List.length_cons,List.length_nil];omega,by simp only[List.length_cons,List.length_nil];omega⟩ (Ex.ret (.inl ⟨_,rfl,⟨?_,?_,?_,?_⟩,?_⟩));all_goals simp only[aF (z:=k+1) (by omega) (by omega),List.length_append,List.length_cons,List.length_nil]
   {omega};{omega};{exact R4.up (by omega)};{omega};{omega}
 {have hk:¬k<4:=of_decide_eq_false hk;exact Ex.ret (.inr ⟨_,rfl,R.up (by omega),by show rs.length=4;omega⟩)}
theorem aVk{m n:Int}{r:Dl20Rd}(R:Rdr m r)(h0:0<=m)(hm:m<=980000):Ex (iE r n) (λv=>Rdr (m+60) v.1/\v.2.Regs.length<=4):=by unfold iE;refine Ex.bind (aL R (by omega) (by omega)) λv1 ⟨R1,a1,b1⟩=>?_;refine Ex.bind (aL R1 (by omega) (by omega)) λv2 ⟨R2,a2,b2⟩=>?_;refine Ex.grd ⟨a2,by simp only[List.length_cons,List.length_nil];omega⟩ ?_;refine Ex.bind (aL R2 (by omega) (by omega)) λv3 ⟨R3,a3,b3⟩=>?_;refine Ex.bind (aL R3 (by omega) (by omega)) λv4 ⟨R4,a4,b4⟩=>?_;refine Ex.bind (aL R4 (by omega) (by omega)) λv5 ⟨R5,a5,b5⟩=>?_;refine Ex.bind (aL R5 (by omega) (by omega)) λv6 ⟨R6,a6,b6⟩=>?_;refine Ex.bind (aL R6 (by omega) (by omega)) λv7 ⟨R7,a7,b7⟩=>?_;refine Ex.bind (aL R7 (by omega) (by omega)) λv8 ⟨R8,a8,b8⟩=>?_;refine Ex.bind (aL R8 (by omega) (by omega)) λv9 ⟨R9,a9,b9⟩=>?_;refine Ex.bind (aL R9 (by omega) (by omega)) λv10 ⟨R10,a10,b10⟩=>?_;refine Ex.bind (aL R10 (by omega) (by omega)) λv11 ⟨R11,a11,b11⟩=>?_;refine Ex.bind (aL R11 (by omega) (by omega)) λv12 ⟨R12,a12,b12⟩=>?_;refine Ex.bind (aL R12 (by omega) (by omega)) λv13 ⟨R13,a13,b13⟩=>?_;have R13:Rdr (m+13) v13.1:=R13.up (by omega);refine Ex.join (Ex.loopv (λs:List Int×Int×List Int×Int=>0<=s.2.2.2/\s.2.2.2<=4/\Rdr (m+13+8*s.2.2.2) ⟨s.1,s.2.1⟩/\(s.2.2.1.length:Int)=s.2.2.2) (λs=>4-s.2.2.2.toNat) (λt=>Rdr (m+13+32) ⟨t.1,t.2.1⟩/\t.2.2.length=4) ⟨by simp,by simp,R13.up (by simp),by simp⟩ (aTm (by omega) (by omega))) λs1 ⟨RL,hl⟩=>?_;unfold pX;refine Ex.join (P:=λs2:List Int×Int×List Int×Int×Int=>Rdr (m+60) ⟨s2.1,s2.2.1⟩/\s2.2.2.1.length<=4) ?_ λs2 h2=>Ex.ret h2;refine Ex.bind (aJi RL (by omega)) λv16 R16=>?_;have R16:Rdr (m+46) v16.1:=R16.up (by omega);refine Ex.cond (λ_=>?_) λ_=>?_;{refine Ex.bind (aL R16 (by omega) (by omega)) λv17 ⟨R17,a17,b17⟩=>?_;refine Ex.cond (λ_=>?_) λ_=>?_;{exact Ex.grd ⟨by omega,by omega,by omega⟩ (Ex.ret ⟨_,rfl,R17.up (by omega),by simp only[List.length_take];omega⟩)};{refine Ex.cond (λ_=>?_) λ_=>?_;{exact Ex.bind (aL R17 (by omega) (by omega)) λv18 ⟨R18,a18,b18⟩=>Ex.ret ⟨_,rfl,R18.up (by omega),by simp only;omega⟩};{refine Ex.cond (λ_=>?_) λ_=>?_;{exact Ex.bind (aL R17 (by omega) (by omega)) λv18 ⟨R18,a18,b18⟩=>Ex.ret ⟨_,rfl,R18.up (by omega),by simp only;omega⟩};{exact Ex.bind (aL R17 (by omega) (by omega)) λv18 ⟨R18,a18,b18⟩=>Ex.grd ⟨by omega,by omega⟩ (Ex.ret ⟨_,rfl,R18.up (by omega),by simp only[lS];omega⟩)}}}};{exact Ex.ret ⟨_,rfl,R16.up (by omega),by simp only;omega⟩}
namespace M
def insOk(x:DIns):Bool:=inR 0 15 x.Op&&inR 0 3 x.A&&inR 0 63 x.N
end M
theorem bBh(x:DIns):oS x=some (M.insOk x):=by unfold oS;rw[oC,oC,oC];simp only[oB,M.insOk];cases M.inR 0 15 x.Op<;>cases M.inR 0 3 x.A<;>cases M.inR 0 63 x.N<;>rfl
theorem aWh(x:DIns):Ex (lF x) (λ_=>True):=by unfold lF;rw[bBh];exact Ex.cond (λ_=>Ex.ret trivial) λ_=>Ex.ret trivial
theorem bFw{m n:Int}{r:Dl20Rd}(R:Rdr m r)(hm:m<=999000):Ex (mV r n) (λv=>Rdr (m+6) v.1):=by unfold mV;refine Ex.bind (aL R (by omega) (by omega)) λv1 ⟨R1,a1,b1⟩=>?_;refine Ex.bind (aL R1 (by omega) (by omega)) λv2 ⟨R2,a2,b2⟩=>?_;refine Ex.bind (aL R2 (by omega) (by omega)) λv3 ⟨R3,a3,b3⟩=>?_;refine Ex.join (P:=λs:Int×List Int×Int×Int×Int=>Rdr (m+6) ⟨s.2.1,s.2.2.1⟩) ?_ λs hs=>Ex.ret hs;refine Ex.bind (aJi R3 (by omega)) λv5 R5=>?_;refine Ex.cond (λ_=>?_) λ_=>Ex.ret ⟨_,rfl,R5.up (by omega)⟩;refine Ex.bind (aL R5 (by omega) (by omega)) λv6 ⟨R6,a6,b6⟩=>?_;refine Ex.cond (λ_=>?_) λ_=>?_;{exact Ex.bind (aL R6 (by omega) (by omega)) λv7 ⟨R7,_,_⟩=>Ex.ret ⟨_,rfl,R7.up (by omega)⟩};{refine Ex.cond (λ_=>?_) λ_=>?_;{exact Ex.ret ⟨_,rfl,R6.up (by omega)⟩};{exact Ex.bind (aL R6 (by omega) (by omega)) λv7 ⟨R7,_,_⟩=>Ex.ret ⟨_,rfl,R7.up (by omega)⟩}}
theorem aTh{m:Int}{L:Nat}(hL:L<=64)(hm:m<=900000)(h0:0<=m)(s:List Int×Int×List Int×Int)(hs:0<=s.2.2.2/\s.2.2.2<=(L:Int)/\Rdr (m+12*s.2.2.2) ⟨s.1,s.2.1⟩/\s.2.2.1.length=L):
 Ex (mJ s) (λo=>(∃s',o= .next s'/\(0<=s'.2.2.2/\s'.2.2.2<=(L:Int)/\Rdr (m+12*s'.2.2.2) ⟨s'.1,s'.2.1⟩/\s'.2.2.1.length=L)/\L-s'.2.2.2.toNat<L-s.2.2.2.toNat)\/∃t,o= .ret (.go t)/\(Rdr (m+768) ⟨t.2.1,t.2.2⟩/\t.1.length=L)):=by
 obtain⟨b,p,mem,k⟩:=s;obtain⟨k0,k1,R,hl⟩:=hs;simp only at k0 k1 R hl;unfold mJ;refine Ex.cond (λhk=>?_) λhk=>?_
 · have hk:k<(mem.length:Int):=of_decide_eq_true hk
   refine Ex.join (P:=λs4:List Int×Int×List Int=>Rdr (m+12*k+12) ⟨s4.1,s4.2.1⟩/\s4.2.2.length=L) ?_ λs4 ⟨R4,hl4⟩=>?_;{refine Ex.join (P:=λ_:Bool=>True) (Ex.cond (λ_=>Ex.ret ⟨_,rfl,trivial⟩) λ_=>Ex.ret ⟨_,rfl,trivial⟩) λs5 _=>?_;unfold rR;refine Ex.cond (λ_=>?_) λ_=>?_;{refine Ex.bind (aL R (by omega) (by omega)) λv6 ⟨R6,a6,b6⟩=>?_;refine Ex.cond (λ_=>?_) λ_=>Ex.ret ⟨_,rfl,R6.up (by omega),hl⟩;refine Ex.bind (aL R6 (by omega) (by omega)) λv7 ⟨R7,a7,b7⟩=>?_;refine Ex.bind (aL R7 (by omega) (by omega)) λv8 ⟨R8,a8,b8⟩=>?_;refine Ex.bind (aL R8 (by omega) (by omega)) λv9 ⟨R9,a9,b9⟩=>?_;refine Ex.bind (aCk _) λv10 _=>?_;exact Ex.grd ⟨k0,hk⟩ (Ex.ret ⟨_,rfl,R9.up (by omega),by simp only[lS];exact hl⟩)};{refine Ex.bind (bFw R (by omega)) λv11 R11=>?_;refine Ex.join (P:=λs12:List Int×Int×Int=>Rdr (m+12*k+8) ⟨s12.1,s12.2.1⟩) ?_ λs12 R12=>?_;{refine Ex.bind (aL R11 (by omega) (by omega)) λv16 ⟨R16,a16,b16⟩=>?_;refine Ex.cond (λ_=>?_) λ_=>Ex.ret ⟨_,rfl,R16.up (by omega)⟩;refine Ex.bind (aL R16 (by omega) (by omega)) λv17 ⟨R17,a17,b17⟩=>?_;exact Ex.grd ⟨a17,b17⟩ (Ex.ret ⟨_,rfl,R17.up (by omega)⟩)};{unfold qQ;refine Ex.join (P:=λs13:List Int×Int×Int=>Rdr (m+12*k+9) ⟨s13.1,s13.2.1⟩) ?_ λs13 R13=>?_;{refine Ex.cond (λ_=>?_) λ_=>Ex.ret ⟨_,rfl,R12.up (by omega)⟩;refine Ex.bind (aL R12 (by omega) (by omega)) λv15 ⟨R15,a15,b15⟩=>?_;exact Ex.cond (λ_=>Ex.ret ⟨_,rfl,R15.up (by omega)⟩) λ_=>Ex.ret ⟨_,rfl,R15.up (by omega)⟩};{unfold qD;refine Ex.bind (aWh _) λv14 _=>?_;exact Ex.grd ⟨k0,hk⟩ (Ex.ret ⟨_,rfl,R13.up (by omega),by simp only[lS];exact hl⟩)}}}}
   · unfold rT
     refine Ex.ret (.inl ⟨_,rfl,⟨?_,?_,?_,?_⟩,?_⟩);all_goals simp only[aF (z:=k+1) (by omega) (by omega)]
     {omega};{omega};{exact R4.up (by omega)};{exact hl4};{omega}
 {have hk:¬k<(mem.length:Int):=of_decide_eq_false hk;exact Ex.ret (.inr ⟨_,rfl,R.up (by omega),hl⟩)}
theorem bEw{m:Int}{r:Dl20Rd}(R:Rdr m r)(h0:0<=m)(hm:m<=800000):Ex (lJ r) (λv=>Rdr (m+1400) v.1/\v.2.length=64):=by unfold lJ;refine Ex.bind (aZk R h0 (by omega)) λv1 ⟨R1,hl,hl0⟩=>?_;have hl0:=hl0 (by omega);refine Ex.join (Ex.loopv (λs:List Int×Int×List Int×Int=>0<=s.2.2.2/\s.2.2.2<=(v1.2.length:Int)/\Rdr (m+600+12*s.2.2.2) ⟨s.1,s.2.1⟩/\s.2.2.1.length=v1.2.length) (λs=>v1.2.length-s.2.2.2.toNat) (λt=>Rdr (m+600+768) ⟨t.2.1,t.2.2⟩/\t.1.length=v1.2.length) ⟨by simp,by simp,R1.up (by simp),rfl⟩ (aTh hl (by omega) (by omega))) λs2 ⟨R2,h2⟩=>?_;unfold rZ;exact Ex.ret ⟨R2.up (by omega),by show s2.1.length=64;omega⟩
theorem aRr{m:Int}(hm:m<=900000)(h0:0<=m)(s:List Int×Int×List Int×Int)(hs:0<=s.2.2.2/\s.2.2.2<=3/\Rdr (m+2*(3-s.2.2.2)) ⟨s.1,s.2.1⟩/\(s.2.2.1.length:Int)+s.2.2.2<=3):
 Ex (gM s) (λo=>(∃s',o= .next s'/\(0<=s'.2.2.2/\s'.2.2.2<=3/\Rdr (m+2*(3-s'.2.2.2)) ⟨s'.1,s'.2.1⟩/\(s'.2.2.1.length:Int)+s'.2.2.2<=3)/\s'.2.2.2.toNat<s.2.2.2.toNat)\/∃t,o= .ret (.go t)/\(Rdr (m+6) ⟨t.1,t.2.1⟩/\t.2.2.length<=3)):=by
 obtain⟨b,p,l,k⟩:=s;obtain⟨k0,k1,R,hl⟩:=hs;simp only at k0 k1 R hl;unfold gM;refine Ex.cond (λhk=>?_) λhk=>?_
 · have hk:0<k:=of_decide_eq_true hk
   refine Ex.bind (aFo R (by omega)) λv ⟨R1,a1,b1⟩=>?_;refine Ex.grd ⟨by simp only[List.length_cons,List.length_nil];omega,by simp only[List.length_cons,List.length_nil];omega⟩ (Ex.ret (.inl ⟨_,rfl,⟨?_,?_,?_,?_⟩,?_⟩));all_goals simp only[aF (z:=k-1) (by omega) (by omega),List.length_append,List.length_cons,List.length_nil]
   {omega};{omega};{exact R1.up (by omega)};{omega};{omega}
 {have hk:¬0<k:=of_decide_eq_false hk;exact Ex.ret (.inr ⟨_,rfl,R.up (by omega),by show l.length<=3;omega⟩)}
theorem aQg{m k:Int}{r:Dl20Rd}(R:Rdr m r)(h0:0<=m)(hm:m<=900000)(k0:0<=k)(k1:k<=3):Ex (Option.bind (iter gM (r.b,r.p,[],k)) LO.val) (λj=>∃t,j= .go t/\(Rdr (m+6) ⟨t.1,t.2.1⟩/\t.2.2.length<=3)):=Ex.loopv (λs:List Int×Int×List Int×Int=>0<=s.2.2.2/\s.2.2.2<=3/\Rdr (m+2*(3-s.2.2.2)) ⟨s.1,s.2.1⟩/\(s.2.2.1.length:Int)+s.2.2.2<=3) (λs=>s.2.2.2.toNat) (λt:List Int×Int×List Int=>Rdr (m+6) ⟨t.1,t.2.1⟩/\t.2.2.length<=3) ⟨k0,k1,R.up (by simp only;omega),by simp only[List.length_nil];omega⟩ (aRr hm h0)
theorem aWr{m k:Int}{r:Dl20Rd}(R:Rdr m r)(h0:0<=m)(hm:m<=900000)(k0:0<=k)(k1:k<=3):Ex (Option.bind (iter qL (r.b,r.p,[],k)) LO.val) (λj=>∃t,j= .go t/\(Rdr (m+6) ⟨t.1,t.2.1⟩/\t.2.2.length<=3)):=aQg R h0 hm k0 k1
structure Tiny (b : DBare) : Prop where
 regs:b.C.Regs.length<=4
 mem:b.Mem.length<=64
 i:b.In.length<=31
 o:b.Out.length<=31
theorem Tiny.small{b:DBare}(h:Tiny b):SmallB b:=⟨⟨by have:=h.regs;omega⟩,by have:=h.mem;omega,by have:=h.i;omega,by have:=h.o;omega⟩
theorem bEm{m n:Int}{r:Dl20Rd}(R:Rdr m r)(h0:0<=m)(hm:m<=700000):Ex (lM r n) (λv=>Rdr (m+3000) v.1/\Tiny v.2/\(n<=0->v.2.Mem.length=64)):=by unfold lM;refine Ex.bind (aVk R h0 (by omega)) λv1 ⟨R1,c1⟩=>?_;refine Ex.bind (bEw R1 (by omega) (by omega)) λv2 ⟨R2,c2⟩=>?_;refine Ex.join (Ex.bind (aL R2 (by omega) (by omega)) λv13 ⟨R13,a13,b13⟩=>aQg R13 (by omega) (by omega) a13 (by omega)) λs3 ⟨R3,c3⟩=>?_;unfold rK;refine Ex.join (Ex.bind (aL R3 (by omega) (by omega)) λv10 ⟨R10,a10,b10⟩=>aWr R10 (by omega) (by omega) a10 (by omega)) λs4 ⟨R4,c4⟩=>?_;unfold rP;refine Ex.join (P:=λs5:List Int×Int×Int×Int×Int×Bool×Int×Int×Int×Bool×Bool×Bool×Bool×List Int×Int×List Int×List Int=>Rdr (m+3000) ⟨s5.2.2.2.2.2.2.2.2.2.2.2.2.2.1,s5.2.2.2.2.2.2.2.2.2.2.2.2.2.2.1⟩/\s5.1.length<=4/\s5.2.2.2.2.2.2.2.2.2.2.2.2.2.2.2.1.length<=64/\s5.2.2.2.2.2.2.2.2.2.2.2.2.2.2.2.2.length<=31/\(n<=0->s5.2.2.2.2.2.2.2.2.2.2.2.2.2.2.2.1.length=64)) ?_ λs5 ⟨h5,g1,g2,g3,g4⟩=>Ex.ret ⟨h5,⟨g1,g2,g3,by show s4.2.2.length<=31;omega⟩,g4⟩;have c2':v2.2.length<=64:=(by omega);refine Ex.bind (aUe R4 (by omega)) λv6 ⟨R6,o6⟩=>?_;refine Ex.cond (λhv=>?_) λ_=>Ex.ret ⟨_,rfl,R6.up (by omega),c1,c2',by simp only;omega,λ_=>c2⟩;refine Ex.bind (aL R6 (by omega) (by omega)) λv7 ⟨R7,a7,b7⟩=>?_;refine Ex.cond (λ_=>?_) λ_=>?_;{exact Ex.bind (aVk R7 (by omega) (by omega)) λv8 ⟨R8,c8⟩=>Ex.ret ⟨_,rfl,R8.up (by omega),c8,c2',by simp only;omega,λhn=>by rw[o6 hn]at hv;cases hv⟩};{refine Ex.cond (λ_=>?_) λ_=>?_;{exact Ex.bind (aZk R7 (by omega) (by omega)) λv8 ⟨R8,c8,_⟩=>Ex.ret ⟨_,rfl,R8.up (by omega),c1,c8,by simp only;omega,λhn=>by rw[o6 hn]at hv;cases hv⟩};{exact Ex.ret ⟨_,rfl,R7.up (by omega),c1,c2',by simp,λhn=>by rw[o6 hn]at hv;cases hv⟩}}
structure LG (g : DGuest) : Prop where
 small:SmallG g
 pages:g.Live=true->g.Pages.length=8
structure LH (gs : List DGuest) : Prop where
 three:gs.length=3
 all:∀g∈gs,LG g
theorem LH.set{gs:List DGuest}{i:Nat}{x:DGuest}(h:LH gs)(hx:LG x):LH (gs.set i x):=by refine⟨by rw[lS];exact h.three,λg hg=>?_⟩;rcases List.mem_or_eq_of_mem_set hg with hg|rfl;{exact h.all g hg};{exact hx}
theorem LH.get{gs:List DGuest}(h:LH gs){i:Nat}(hi:i<3):LG (gs.getD i default):=h.all _ (xM (by rw[h.three];exact hi))
theorem LH.host{gs:List DGuest}{ws:List Int}(h:LH gs)(hw:ws.length=160):SmallH ⟨ws,gs⟩:=⟨by simp only[hw];omega,by simp only[h.three];omega,λg hg=>(h.all g hg).small⟩
theorem bAs{h:DHost}{b:DBare}(hb:(M.hostBoot h b).2.2=true)(hs:SmallB b)(hl:LH h.Guests):(M.hostBoot h b).1.Words.length=160/\LH (M.hostBoot h b).1.Guests:=by unfold M.hostBoot at hb ⊢;(cases hc:(M.hostOk h&&M.bareOk b&&(!decide (M.gone h.Guests=-1)&&decide (M.used b.Mem 8<=(M.free (M.slots h.Guests)).length)))with|false=>rw[hc]at hb;cases hb|true=>simp only[bA,decide_eq_true_eq]at hc;have hk:=gJ.1 hc.1.1;simp only[cTq,M.booted];exact⟨tU hk.len (by omega) hc.2.2,hl.set ⟨⟨hs.c,by simp[M.slotsFor],hs.i,hs.o⟩,λ_=>by simp[M.slotsFor]⟩⟩)
abbrev S18:=List Int×Int×List Int×List DGuest×List Int×Int×Int×Int×Int×Bool×Int×Int×Int×Bool×Bool×Bool×Bool×List Int×List Int×List Int×Int
abbrev S19:=List Int×Int×List Int×List DGuest×List Int×Int×Int×Int×Int×Bool×Int×Int×Int×Bool×Bool×Bool×Bool×List Int×List Int×List Int
theorem aUu{m:Int}(hm:m<=900000)(h0:0<=m)(s:List Int×Int×List Int×Int)(hs:0<=s.2.2.2/\s.2.2.2<=160/\Rdr (m+3*s.2.2.2) ⟨s.1,s.2.1⟩/\s.2.2.1.length=160):
 Ex (kW s) (λo=>(∃s',o= .next s'/\(0<=s'.2.2.2/\s'.2.2.2<=160/\Rdr (m+3*s'.2.2.2) ⟨s'.1,s'.2.1⟩/\s'.2.2.1.length=160)/\160-s'.2.2.2.toNat<160-s.2.2.2.toNat)\/∃t,o= .ret (.go t)/\(Rdr (m+480) ⟨t.1,t.2.1⟩/\t.2.2.length=160)):=by
 obtain⟨b,p,ws,k⟩:=s;obtain⟨k0,k1,R,hl⟩:=hs;simp only at k0 k1 R hl;unfold kW;refine Ex.cond (λhk=>?_) λhk=>?_
 · have hk:k<(ws.length:Int):=of_decide_eq_true hk
   refine Ex.join (P:=λs:List Int×Int×List Int=>Rdr (m+3*k+3) ⟨s.1,s.2.1⟩/\s.2.2.length=160) ?_ λs ⟨R1,h1⟩=>?_;{refine Ex.bind (aL R (by omega) (by omega)) λv ⟨R1,_,_⟩=>?_;refine Ex.cond (λ_=>?_) λ_=>Ex.ret ⟨_,rfl,R1.up (by omega),hl⟩;refine Ex.bind (aFo R1 (by omega)) λv ⟨R2,_,_⟩=>?_;exact Ex.grd ⟨k0,hk⟩ (Ex.ret ⟨_,rfl,R2.up (by omega),by simp only[lS];exact hl⟩)}
   · unfold qV
     refine Ex.ret (.inl ⟨_,rfl,⟨?_,?_,?_,?_⟩,?_⟩);all_goals simp only[aF (z:=k+1) (by omega) (by omega)]
     {omega};{omega};{exact R1.up (by omega)};{exact h1};{omega}
 {have hk:¬k<(ws.length:Int):=of_decide_eq_false hk;exact Ex.ret (.inr ⟨_,rfl,R.up (by omega),hl⟩)}
theorem aWu{m:Int}{s18:S18}(hm:m<=900000)(h0:0<=m)(hsame:s18.2.2.2.2.2.2.2.2.2.2.2.2.2.2.2.2.2.1.length=0\/s18.2.2.2.2.2.2.2.2.2.2.2.2.2.2.2.2.2.1.length=64)(s:List Int×Int×List Int×Int)(hs:0<=s.2.2.2/\s.2.2.2<=8/\Rdr (m+2*s.2.2.2) ⟨s.1,s.2.1⟩/\s.2.2.1.length=64):
 Ex (kZ s18 s) (λo=>(∃s',o= .next s'/\(0<=s'.2.2.2/\s'.2.2.2<=8/\Rdr (m+2*s'.2.2.2) ⟨s'.1,s'.2.1⟩/\s'.2.2.1.length=64)/\8-s'.2.2.2.toNat<8-s.2.2.2.toNat)\/∃t,o= .ret (.go t)/\(Rdr (m+16) ⟨t.1,t.2.1⟩/\t.2.2.length=64)):=by
 obtain⟨b,p,mem,k⟩:=s;obtain⟨k0,k1,R,hl⟩:=hs;simp only at k0 k1 R hl;unfold kZ;refine Ex.cond (λhk=>?_) λhk=>?_
 · have hk:k<8:=of_decide_eq_true hk
   have e1:w64 (k*8)=k*8:=aF (by omega) (by omega);have e2:w64 ((w64 (k+1))*8)=(k+1)*8:=(by rw[aF (z:=k+1) (by omega) (by omega),aF (by omega) (by omega)]);refine Ex.join (P:=λs:List Int×Int×List Int=>Rdr (m+2*k+2) ⟨s.1,s.2.1⟩/\s.2.2.length=64) ?_ λs ⟨R1,h1⟩=>?_;{refine Ex.join (P:=λs:List Int×Int×List Int=>Rdr (m+2*k+1) ⟨s.1,s.2.1⟩/\s.2.2.length=64) ?_ λs ⟨R1,h1⟩=>?_;{refine Ex.cond (λ_=>?_) λ_=>Ex.ret ⟨_,rfl,R.up (by omega),hl⟩;refine Ex.bind (aL R (by omega) (by omega)) λv ⟨R1,_,_⟩=>?_;refine Ex.cond (λ_=>?_) λ_=>Ex.ret ⟨_,rfl,R1,hl⟩;simp only[e1];exact Ex.grd ⟨by omega,by omega,by omega⟩ (Ex.ret ⟨_,rfl,R1,by simp only[xX,List.length_replicate];omega⟩)};{unfold qH;refine Ex.cond (λhz=>?_) λ_=>Ex.ret ⟨_,rfl,R1.up (by omega),h1⟩;have hz:=of_decide_eq_true hz;have h64:=hsame.resolve_left (by omega);refine Ex.bind (aL R1 (by omega) (by omega)) λv ⟨R2,_,_⟩=>?_;refine Ex.cond (λ_=>?_) λ_=>Ex.ret ⟨_,rfl,R2.up (by omega),h1⟩;simp only[e1,e2];exact Ex.grd ⟨by omega,by omega,by omega⟩ (Ex.grd ⟨by omega,by omega,by omega⟩ (Ex.ret ⟨_,rfl,R2.up (by omega),by simp only[xX,List.length_take,List.length_drop];omega⟩))}}
   · unfold qO
     refine Ex.ret (.inl ⟨_,rfl,⟨?_,?_,?_,?_⟩,?_⟩);all_goals simp only[aF (z:=k+1) (by omega) (by omega)]
     {omega};{omega};{exact R1.up (by omega)};{exact h1};{omega}
 {have hk:¬k<8:=of_decide_eq_false hk;exact Ex.ret (.inr ⟨_,rfl,R.up (by omega),hl⟩)}
theorem aWb{m:Int}(hm:m<=600000)(h0:0<=m)(s:S18)(hs:0<=s.2.2.2.2.2.2.2.2.2.2.2.2.2.2.2.2.2.2.2.2/\s.2.2.2.2.2.2.2.2.2.2.2.2.2.2.2.2.2.2.2.2<=3/\Rdr (m+3100*(3-s.2.2.2.2.2.2.2.2.2.2.2.2.2.2.2.2.2.2.2.2)) ⟨s.1,s.2.1⟩/\s.2.2.1.length=160/\LH s.2.2.2.1/\(s.2.2.2.2.2.2.2.2.2.2.2.2.2.2.2.2.2.1.length=0\/s.2.2.2.2.2.2.2.2.2.2.2.2.2.2.2.2.2.1.length=64)):
 Ex (kQ s) (λo=>(∃s',o= .next s'/\(0<=s'.2.2.2.2.2.2.2.2.2.2.2.2.2.2.2.2.2.2.2.2/\s'.2.2.2.2.2.2.2.2.2.2.2.2.2.2.2.2.2.2.2.2<=3/\Rdr (m+3100*(3-s'.2.2.2.2.2.2.2.2.2.2.2.2.2.2.2.2.2.2.2.2)) ⟨s'.1,s'.2.1⟩/\s'.2.2.1.length=160/\LH s'.2.2.2.1/\(s'.2.2.2.2.2.2.2.2.2.2.2.2.2.2.2.2.2.1.length=0\/s'.2.2.2.2.2.2.2.2.2.2.2.2.2.2.2.2.2.1.length=64))/\s'.2.2.2.2.2.2.2.2.2.2.2.2.2.2.2.2.2.2.2.2.toNat<s.2.2.2.2.2.2.2.2.2.2.2.2.2.2.2.2.2.2.2.2.toNat)\/∃t,o= .ret (.go t)/\(Rdr (m+9300) ⟨t.1,t.2.1⟩/\t.2.2.1.length=160/\LH t.2.2.2)):=by
 obtain⟨b,p,ws,gs,a5,a6,a7,a8,a9,a10,a11,a12,a13,a14,a15,a16,a17,mem,a19,a20,k⟩:=s;obtain⟨k0,k1,R,hw,hg,hmem⟩:=hs;simp only at k0 k1 R hw hg hmem;unfold kQ;refine Ex.cond (λhk=>?_) λhk=>?_
 · have hk:0<k:=of_decide_eq_true hk
   refine Ex.join (P:=λs:S19=>Rdr (m+3100*(3-k)+3100) ⟨s.1,s.2.1⟩/\s.2.2.1.length=160/\LH s.2.2.2.1/\s.2.2.2.2.2.2.2.2.2.2.2.2.2.2.2.2.2.1.length=64) ?_ λs ⟨R1,h1,h2,h3⟩=>?_;{refine Ex.bind (bEm R (by omega) (by omega)) λv ⟨R2,t2,l2⟩=>?_;have l2:=l2 (by omega);refine Ex.join (Ex.loopv (λs:List Int×Int×List Int×Int=>0<=s.2.2.2/\s.2.2.2<=8/\Rdr (m+3100*(3-k)+3000+2*s.2.2.2) ⟨s.1,s.2.1⟩/\s.2.2.1.length=64) (λs=>8-s.2.2.2.toNat) (λt:List Int×Int×List Int=>Rdr (m+3100*(3-k)+3000+16) ⟨t.1,t.2.1⟩/\t.2.2.length=64) ⟨by simp,by simp,R2.up (by simp),l2⟩ (aWu (by omega) (by omega) hmem)) λs ⟨R3,h3⟩=>?_;unfold qE;have hsb:SmallB (DBare.mk v.2.C s.2.2 v.2.In v.2.Out):=⟨t2.small.c,by simp only[h3];omega,t2.small.i,t2.small.o⟩;rw[aSj (hg.host hw) hsb,oB];refine Ex.cond (λhb=>?_) λ_=>Ex.ret ⟨_,rfl,R3.up (by omega),hw,hg,h3⟩;obtain⟨q1,q2⟩:=bAs hb hsb hg;exact Ex.ret ⟨_,rfl,R3.up (by omega),q1,q2,h3⟩}
   · unfold qG
     refine Ex.ret (.inl ⟨_,rfl,⟨?_,?_,?_,h1,h2,.inr h3⟩,?_⟩);all_goals simp only[aF (z:=k-1) (by omega) (by omega)]
     {omega};{omega};{exact R1.up (by omega)};{omega}
 {have hk:¬0<k:=of_decide_eq_false hk;exact Ex.ret (.inr ⟨_,rfl,R.up (by omega),hw,hg⟩)}
theorem aSe{m:Int}(hm:m<=900000)(h0:0<=m)(s:List Int×Int×List DGuest×Int)(hs:0<=s.2.2.2/\s.2.2.2<=3/\Rdr (m+5*(3-s.2.2.2)) ⟨s.1,s.2.1⟩/\LH s.2.2.1):
 Ex (kL s) (λo=>(∃s',o= .next s'/\(0<=s'.2.2.2/\s'.2.2.2<=3/\Rdr (m+5*(3-s'.2.2.2)) ⟨s'.1,s'.2.1⟩/\LH s'.2.2.1)/\s'.2.2.2.toNat<s.2.2.2.toNat)\/∃t,o= .ret (.go t)/\(Rdr (m+15) ⟨t.1,t.2.1⟩/\LH t.2.2)):=by
 obtain⟨b,p,gs,k⟩:=s;obtain⟨k0,k1,R,hg⟩:=hs;simp only at k0 k1 R hg;have h3:=hg.three;unfold kL;refine Ex.cond (λhk=>?_) λhk=>?_
 · have hk:0<k:=of_decide_eq_true hk
   refine Ex.join (P:=λs:List Int×Int×List DGuest=>Rdr (m+5*(3-k)+5) ⟨s.1,s.2.1⟩/\LH s.2.2) ?_ λs ⟨R1,h1⟩=>?_
   · refine Ex.bind (aL R (by omega) (by omega)) λv12 ⟨R12,a12,b12⟩=>?_
     refine Ex.bind (aL R12 (by omega) (by omega)) λv13 ⟨R13,a13,b13⟩=>?_;refine Ex.bind (aL R13 (by omega) (by omega)) λv14 ⟨R14,a14,b14⟩=>?_;have lA:=hg.get (i:=v12.2.toNat) (by omega);have lB:=hg.get (i:=v13.2.toNat) (by omega);have gA:(0:Int)<=v12.2/\v12.2<((gs.length:Nat):Int):=⟨a12,by omega⟩;have gB:(0:Int)<=v13.2/\v13.2<((gs.length:Nat):Int):=⟨a13,by omega⟩;refine Ex.grd gA (Ex.cond (λhA=>?_) λ_=>Ex.ret ⟨_,rfl,R14.up (by omega),hg⟩);refine Ex.grd gB (Ex.cond (λhB=>?_) λ_=>Ex.ret ⟨_,rfl,R14.up (by omega),hg⟩);have pA:=lA.pages hA;have pB:=lB.pages hB;have gP:(0:Int)<=v14.2/\v14.2<(((gs.getD v12.2.toNat default).Pages.length:Nat):Int):=⟨a14,by omega⟩;refine Ex.grd gA (Ex.grd gP (Ex.cond (λ_=>?_) λ_=>Ex.ret ⟨_,rfl,R14.up (by omega),hg⟩));refine Ex.grd gA (Ex.grd gP (Ex.grd gB (Ex.bind (aL R14 (by omega) (by omega)) λv15 ⟨R15,a15,b15⟩=>?_)));generalize hx:(DGuest.mk (gs.getD v12.2.toNat default).Live (gs.getD v12.2.toNat default).C ((gs.getD v12.2.toNat default).Pages.set v14.2.toNat (DSlot.mk ((gs.getD v12.2.toNat default).Pages.getD v14.2.toNat default).Frame false ((gs.getD v12.2.toNat default).Pages.getD v14.2.toNat default).Dirty)) (gs.getD v12.2.toNat default).In (gs.getD v12.2.toNat default).Out)=x;have lx:LG x:=(by subst hx;exact⟨⟨⟨lA.small.c.regs⟩,by simpa only[lS]using lA.small.pages,lA.small.i,lA.small.o⟩,λ_=>by simpa only[lS]using pA⟩);have xl:x.Live=true:=(by subst hx;exact hA);have xp:x.Pages.length=(gs.getD v12.2.toNat default).Pages.length:=(by subst hx;exact lS);have gP2:(0:Int)<=v14.2/\v14.2<((((gs.set v12.2.toNat x).getD v12.2.toNat default).Pages.length:Nat):Int):=(by rw[gH (by rw[lS];omega),List.getElem_set_self,xp];exact gP);refine Ex.grd gA (Ex.grd gP2 (Ex.bind (aL R15 (by omega) (by omega)) λv16 ⟨R16,a16,b16⟩=>?_));have hg2:=hg.set (i:=v12.2.toNat) lx;have lB2:=hg2.get (i:=v13.2.toNat) (by omega)
     have hB2:((gs.set v12.2.toNat x).getD v13.2.toNat default).Live=true:=by
      by_cases e:v12.2.toNat=v13.2.toNat
      {rw[e];rw[gH (by rw[lS];omega),List.getElem_set_self];exact xl};{rw[gH (by rw[lS];omega),List.getElem_set_ne e,<-gH];exact hB}
     have pB2:=lB2.pages hB2;have gQ:(0:Int)<=v15.2/\v15.2<((((gs.set v12.2.toNat x).getD v13.2.toNat default).Pages.length:Nat):Int):=⟨a15,by omega⟩;refine Ex.grd gQ (Ex.ret ⟨_,rfl,R16.up (by omega),?_⟩);exact hg2.set ⟨⟨⟨lB2.small.c.regs⟩,by simpa only[lS]using lB2.small.pages,lB2.small.i,lB2.small.o⟩,λ_=>by simpa only[lS]using pB2⟩
   · unfold qW
     refine Ex.ret (.inl ⟨_,rfl,⟨?_,?_,?_,h1⟩,?_⟩);all_goals simp only[aF (z:=k-1) (by omega) (by omega)]
     {omega};{omega};{exact R1.up (by omega)};{omega}
 {have hk:¬0<k:=of_decide_eq_false hk;exact Ex.ret (.inr ⟨_,rfl,R.up (by omega),hg⟩)}
theorem bEt{m n:Int}{r:Dl20Rd}(R:Rdr m r)(h0:0<=m)(hm:m<=500000):Ex (lK r n) (λv=>Rdr (m+12000) v.1/\SmallH v.2):=by unfold lK;refine Ex.bind (P:=λv:DHost=>v.Words.length=160/\LH v.Guests) ⟨_,rfl,by simp,by simp,λg hg=>?_⟩ λv1 ⟨w1,g1⟩=>?_;{have:=List.eq_of_mem_replicate (show g∈List.replicate 3 M.noGuest from hg);rw[this];exact⟨⟨⟨by decide⟩,by decide,by decide,by decide⟩,λh=>by cases h⟩};refine Ex.join (Ex.loopv (λs:List Int×Int×List Int×Int=>0<=s.2.2.2/\s.2.2.2<=160/\Rdr (m+3*s.2.2.2) ⟨s.1,s.2.1⟩/\s.2.2.1.length=160) (λs=>160-s.2.2.2.toNat) (λt:List Int×Int×List Int=>Rdr (m+480) ⟨t.1,t.2.1⟩/\t.2.2.length=160) ⟨by simp,by simp,R.up (by simp),w1⟩ (aUu (by omega) h0)) λs2 ⟨R2,w2⟩=>?_;unfold rY;refine Ex.join (Ex.bind (aL R2 (by omega) (by omega)) λv17 ⟨R17,a17,b17⟩=>Ex.loopv (λs:S18=>0<=s.2.2.2.2.2.2.2.2.2.2.2.2.2.2.2.2.2.2.2.2/\s.2.2.2.2.2.2.2.2.2.2.2.2.2.2.2.2.2.2.2.2<=3/\Rdr (m+481+3100*(3-s.2.2.2.2.2.2.2.2.2.2.2.2.2.2.2.2.2.2.2.2)) ⟨s.1,s.2.1⟩/\s.2.2.1.length=160/\LH s.2.2.2.1/\(s.2.2.2.2.2.2.2.2.2.2.2.2.2.2.2.2.2.1.length=0\/s.2.2.2.2.2.2.2.2.2.2.2.2.2.2.2.2.2.1.length=64)) (λs=>s.2.2.2.2.2.2.2.2.2.2.2.2.2.2.2.2.2.2.2.2.toNat) (λt:List Int×Int×List Int×List DGuest=>Rdr (m+481+9300) ⟨t.1,t.2.1⟩/\t.2.2.1.length=160/\LH t.2.2.2) (by simp only[aF (z:=1+v17.2) (by omega) (by omega)];exact⟨by omega,by omega,R17.up (by omega),w2,g1,.inl rfl⟩) (aWb (by omega) (by omega))) λs3 ⟨R3,w3,g3⟩=>?_;unfold rN;refine Ex.join (Ex.bind (aL R3 (by omega) (by omega)) λv9 ⟨R9,a9,b9⟩=>Ex.loopv (λs:List Int×Int×List DGuest×Int=>0<=s.2.2.2/\s.2.2.2<=3/\Rdr (m+481+9300+1+5*(3-s.2.2.2)) ⟨s.1,s.2.1⟩/\LH s.2.2.1) (λs=>s.2.2.2.toNat) (λt:List Int×Int×List DGuest=>Rdr (m+481+9300+1+15) ⟨t.1,t.2.1⟩/\LH t.2.2) ⟨a9,by simp only;omega,R9.up (by simp only;omega),g3⟩ (aSe (by omega) (by omega))) λs4 ⟨R4,g4⟩=>?_;have t4:=g4.three;unfold rO;refine Ex.join (P:=λs:List Int×List Int×Int×List DGuest=>Rdr (m+12000) ⟨s.2.1,s.2.2.1⟩/\SmallH ⟨s.1,s.2.2.2⟩) ?_ λs5 h5=>Ex.ret h5;refine Ex.bind (aJi R4 (by omega)) λv6 R6=>?_;refine Ex.cond (λ_=>?_) λ_=>Ex.ret ⟨_,rfl,R6.up (by omega),g4.host w3⟩;refine Ex.bind (aL R6 (by omega) (by omega)) λv7 ⟨R7,a7,b7⟩=>?_;refine Ex.cond (λ_=>?_) λ_=>?_;{refine Ex.bind (aL R7 (by omega) (by omega)) λv8 ⟨R8,a8,b8⟩=>?_;exact Ex.grd ⟨a8,by omega⟩ (Ex.ret ⟨_,rfl,R8.up (by omega),g4.host (by simpa only[lS]using w3)⟩)};{refine Ex.cond (λ_=>?_) λ_=>?_;{refine Ex.grd ⟨by omega,by omega,by omega⟩ (Ex.ret ⟨_,rfl,R7.up (by omega),⟨by simp only[w3];omega,by simp only[List.length_take];omega,λg hg=>?_⟩⟩);exact(g4.all g (List.mem_of_mem_take hg)).small};{refine Ex.cond (λ_=>?_) λ_=>?_;{exact Ex.grd ⟨by omega,by omega⟩ (Ex.ret ⟨_,rfl,R7.up (by omega),(g4.set ⟨⟨⟨by simp⟩,by simp,by simp,by simp⟩,λh=>by cases h⟩).host w3⟩)};{have l0:=g4.get (i:=0) (by omega);refine Ex.grd ⟨by omega,by omega⟩ (Ex.ret ⟨_,rfl,R7.up (by omega),⟨by simp only[w3];omega,by simp only[lS];omega,λg hg=>?_⟩⟩);rcases List.mem_or_eq_of_mem_set hg with hg|rfl;{exact(g4.all g hg).small};{exact⟨⟨l0.small.c.regs⟩,by simp,l0.small.i,l0.small.o⟩}}}}
theorem aCj{h:DHost}{xs:List DLine}{g a:Int}{u w:Bool}:(M.tagWalk h xs g a u w).1.length<=6:=by unfold M.tagWalk;(cases ht:M.tagsOk h xs with|false=>exact Nat.zero_le _|true=>have hl:=(jX ht).2.1;(cases M.there h g&&M.inR 0 63 a with|false=>exact Nat.zero_le _|true=>rw[Bool.and_self,cTq];show(bif _ then M.withLine xs _ else xs).length<=6;(cases decide (M.lineFor xs g (a/8)=-1)with|false=>exact hl|true=>rw[cTq];unfold M.withLine;by_cases e:xs.length=6;{rw[dT e,cTq];simp;omega};{rw[dF e,cFq];simp;omega})))
theorem aTi{h:DHost}(hs:SmallH h){m q:Int}(hm:m<=900000)(h0:0<=m)(hq:q<=100)(s:List Int×Int×List DLine×Int)(hI:0<=s.2.2.2/\s.2.2.2<=q/\Rdr (m+2*(q-s.2.2.2)) ⟨s.1,s.2.1⟩/\s.2.2.1.length<=6):
 Ex (iC h s) (λo=>(∃s',o= .next s'/\(0<=s'.2.2.2/\s'.2.2.2<=q/\Rdr (m+2*(q-s'.2.2.2)) ⟨s'.1,s'.2.1⟩/\s'.2.2.1.length<=6)/\s'.2.2.2.toNat<s.2.2.2.toNat)\/∃t:List Int×Int×List DLine,o= .ret (.go t)/\(Rdr (m+2*q) ⟨t.1,t.2.1⟩/\t.2.2.length<=6)):=by
 obtain⟨b,p,ts,k⟩:=s;obtain⟨k0,k1,R,hl⟩:=hI;simp only at k0 k1 R hl;unfold iC;refine Ex.cond (λhk=>?_) λhk=>?_
 · have hk:0<k:=of_decide_eq_true hk
   refine Ex.join (P:=λt:List Int×Int×List DLine=>Rdr (m+2*(q-k)+2) ⟨t.1,t.2.1⟩/\t.2.2.length<=6) ?_ λt ⟨R2,h2⟩=>?_;{refine Ex.bind (aL R (by omega) (by omega)) λv9 ⟨R9,a9,b9⟩=>?_;refine Ex.bind (aL R9 (by omega) (by omega)) λv10 ⟨R10,a10,b10⟩=>?_;rw[aIf hs (by simp only;omega),oB];exact Ex.cond (λ_=>Ex.ret ⟨_,rfl,R10.up (by omega),aCj⟩) λ_=>Ex.ret ⟨_,rfl,R10.up (by omega),hl⟩}
   · unfold rX
     refine Ex.ret (.inl ⟨_,rfl,⟨?_,?_,?_,h2⟩,?_⟩);all_goals simp only[aF (z:=k-1) (by omega) (by omega)]
     {omega};{omega};{exact R2.up (by omega)};{omega}
 {have hk:¬0<k:=of_decide_eq_false hk;exact Ex.ret (.inr ⟨_,rfl,R.up (by omega),hl⟩)}
theorem bCi{m n:Int}{r:Dl20Rd}{h:DHost}(R:Rdr m r)(h0:0<=m)(hm:m<=800000)(hs:SmallH h)(hn:1<=n+1/\n<=100):Ex (lT r h n) (λv=>Rdr (m+100) v.1/\v.2.length<=7):=by unfold lT;refine Ex.join (P:=λt:List Int×Int×List DLine=>Rdr (m+50) ⟨t.1,t.2.1⟩/\t.2.2.length<=6) ?_ λs ⟨R1,hl⟩=>?_;{refine Ex.bind (aL R (by omega) (by omega)) λv6 ⟨R6,a6,b6⟩=>?_;have key:=Ex.loopv (step:=iC h) (λs:List Int×Int×List DLine×Int=>0<=s.2.2.2/\s.2.2.2<=10/\Rdr (m+1+2*(10-s.2.2.2)) ⟨s.1,s.2.1⟩/\s.2.2.1.length<=6) (λs=>s.2.2.2.toNat) (λt:List Int×Int×List DLine=>Rdr (m+1+2*10) ⟨t.1,t.2.1⟩/\t.2.2.length<=6) (s:=(v6.1.b,v6.1.p,([]:List DLine),v6.2)) ⟨a6,by show v6.2<=10;omega,R6.up (by show m+1<=m+1+2*(10-v6.2);omega),by simp⟩ (aTi hs (by omega) (by omega) (by omega));exact key.mono λo ⟨t,e,h1,h2⟩=>⟨t,e,h1.up (by omega),h2⟩};{unfold rS;refine Ex.join (P:=λt:List Int×Int×List DLine=>Rdr (m+100) ⟨t.1,t.2.1⟩/\t.2.2.length<=7) ?_ λt ⟨R2,h2⟩=>?_;{refine Ex.cond (λhc=>?_) λ_=>Ex.ret ⟨_,rfl,R1.up (by omega),by show s.2.2.length<=7;omega⟩;have hc:=of_decide_eq_true hc;refine Ex.bind (aJi R1 (by omega)) λv3 R3=>?_;refine Ex.cond (λ_=>?_) λ_=>Ex.ret ⟨_,rfl,R3.up (by omega),by show s.2.2.length<=7;omega⟩;refine Ex.bind (aL R3 (by omega) (by omega)) λv4 ⟨R4,_,_⟩=>?_;refine Ex.cond (λ_=>?_) λ_=>?_;{exact Ex.grd ⟨by omega,by omega⟩ (Ex.grd ⟨by omega,by omega⟩ (Ex.ret ⟨_,rfl,R4.up (by omega),by simp only[lS];omega⟩))};{refine Ex.cond (λ_=>?_) λ_=>?_;{exact Ex.grd ⟨by omega,by omega⟩ (Ex.grd ⟨by simp only[List.length_cons,List.length_nil];omega,by simp only[List.length_cons,List.length_nil];omega⟩ (Ex.ret ⟨_,rfl,R4.up (by omega),by simp only[List.length_append,List.length_cons,List.length_nil];omega⟩))};{refine Ex.bind (aL R4 (by omega) (by omega)) λv5 ⟨R5,_,_⟩=>?_;exact Ex.grd ⟨by omega,by omega⟩ (Ex.ret ⟨_,rfl,R5.up (by omega),by simp only[lS];omega⟩)}}};{unfold rI;exact Ex.ret ⟨R2,h2⟩}}
structure FitG (g : DGuest) : Prop where
 c:g.C.Regs.length<=9223372036854775807
 pages:g.Pages.length<=9223372036854775807
 i:g.In.length<=9223372036854775807
 o:g.Out.length<=9223372036854775807
structure FitH (h : DHost) : Prop where
 words:h.Words.length<=9223372036854775807
 guests:h.Guests.length<=9223372036854775807
 all:∀g∈h.Guests,FitG g
noncomputable instance:DecidableEq DShade:=λa b=>Classical.propDecidable (a=b)
noncomputable instance:DecidableEq DLine:=λa b=>Classical.propDecidable (a=b)
theorem vM{xs:List DLine}(h:xs.length<=1048576):fS xs xs=some true:=by
 have key:=kX (n:=xs.length) (step:=gD xs xs) (λi=>(i:Int)) (λ_=>true) (.go ()) (.out false) (λi hi _=>by
  have h1:(i:Int)<(xs.length:Int):=(by omega);simp only[gD,dT h1,cTq];rw[aJ ⟨by omega,h1⟩,aJ ⟨by omega,h1⟩];simp only[decide_true,beq_self_eq_true,Bool.and_self,bT,cFq];rw[aF (by omega) (by omega)];rfl) (λ_=>by
  simp only[gD];rw[dF (by omega),cFq])
 have e:(List.range xs.length).all (λ_=>true)=true:=(by simp);rw[e]at key;unfold fS;rw[dT rfl,bT,cFq,show(0:Int)=((0:Nat):Int)from rfl,key];rfl
theorem aOb{h:DHost}{xs:List DLine}{g a:Int}(ht:M.tagsOk h xs=true)(hg:M.there h g=true)(ha:0<=a/\a<=7)(hn:M.lineFor xs g a=-1){t:DLine}(e1:t.Tag=g)(e2:t.At=a)(e3:t.What=M.shade h.Words (h.Guests.getD g.toNat default) a.toNat):
 M.tagsOk h (M.withLine xs t)=true/\M.lineFor (M.withLine xs t) g a≠-1:=by
 obtain⟨H,hl,hall⟩:=jX ht;have hz:=oV (xs:=xs) (g:=g) (a:=a);rw[dT hn]at hz;have hz:=List.all_eq_true.1 hz.symm;have hno:∀i,i<xs.length->M.hit (xs.getD i default) g a=false:=λi hi=>by have:=hz i (List.mem_range.2 hi);simpa using this
 obtain⟨d,hd,hy⟩:∃d,xs.length-d<=5/\M.withLine xs t=xs.drop d++[t]:=(by unfold M.withLine;by_cases e:xs.length=6;{exact⟨1,by omega,by rw[dT e];rfl⟩};{exact⟨0,by omega,by rw[dF e];rfl⟩});have hm:(xs.drop d).length=xs.length-d:=List.length_drop;have g0:∀i,i<xs.length-d->(xs.drop d++[t]).getD i default=xs.getD (d+i) default:=λi hi=>by simp only[List.getD_eq_getElem?_getD];rw[List.getElem?_append_left (by omega),List.getElem?_drop]
 have g1:(xs.drop d++[t]).getD (xs.length-d) default=t:=(by simp only[List.getD_eq_getElem?_getD];rw[List.getElem?_append_right (by omega),hm,Nat.sub_self];rfl);have hle:(xs.drop d++[t]).length=xs.length-d+1:=(by rw[List.length_append,hm];rfl);rw[hy];constructor;{unfold M.tagsOk;rw[gJ.2 H,Bool.true_and,dT (by omega),Bool.true_and,List.all_eq_true];intro k hk;rw[List.mem_range,hle]at hk;rw[bA];by_cases e:k<xs.length-d;{rw[g0 k e];obtain⟨h1,h2⟩:=hall (d+k) (by omega);refine⟨h1,?_⟩;unfold M.first at h2 ⊢;rw[List.all_eq_true]at h2 ⊢;intro j hj;have hj:=List.mem_range.1 hj;rw[g0 k e,g0 j (by omega)];exact h2 (d+j) (List.mem_range.2 (by omega))};{obtain rfl:k=xs.length-d:=(by omega);rw[g1];refine⟨?_,?_⟩;{unfold M.lineOk;rw[e1,e2,e3,hg,M.inR_iff.2 ha,xO.2 rfl];rfl};{unfold M.first;rw[List.all_eq_true];intro j hj;have hj:=List.mem_range.1 hj;rw[g1,g0 j hj,e1,e2,hno _ (by omega)];rfl}}};{intro hc;have hq:=oV (xs:=xs.drop d++[t]) (g:=g) (a:=a);rw[dT hc]at hq;have:=List.all_eq_true.1 hq.symm (xs.length-d) (List.mem_range.2 (by omega));rw[g1,aHc.2 ⟨e1,e2⟩]at this;cases this}
theorem bGv{m:Int}{r:Dl20Rd}{h:DHost}(R:Rdr m r)(hm:m<=900000):Ex (oE r h) (λv=>Rdr (m+3) v.1):=by unfold oE;refine Ex.bind (aL R (by omega) (by omega)) λv1 ⟨R1,a1,b1⟩=>?_;refine Ex.join (P:=λs:List Int×Int×Int=>Rdr (m+2) ⟨s.1,s.2.1⟩) ?_ λs R2=>?_;{refine Ex.cond (λhc=>?_) λ_=>Ex.ret ⟨_,rfl,R1.up (by omega)⟩;have:=of_decide_eq_true hc;refine Ex.grd ⟨a1,by omega⟩ (Ex.cond (λ_=>?_) λ_=>Ex.ret ⟨_,rfl,R1.up (by omega)⟩);refine Ex.bind (aL R1 (by omega) (by omega)) λv4 ⟨R4,a4,b4⟩=>?_;exact Ex.cond (λ_=>Ex.ret ⟨_,rfl,R4.up (by omega)⟩) λ_=>Ex.ret ⟨_,rfl,R4.up (by omega)⟩};{unfold uB;exact Ex.bind (aL R2 (by omega) (by omega)) λv3 ⟨R3,a3,b3⟩=>Ex.ret (R3.up (by omega))}
theorem aTr{xs:List Int}(hx:∀x∈xs,0<=x/\x<=255):Ex (gK xs) (λv=>SmallH v.1/\v.2.1.length<=7):=by unfold gK;refine Ex.bind (bEb hx) λr R=>?_;refine Ex.bind (bEt R (by omega) (by omega)) λv2 ⟨R2,hs⟩=>?_;refine Ex.bind (bCi R2 (by omega) (by omega) hs (by omega)) λv3 ⟨R3,hl⟩=>?_;refine Ex.bind (bGv R3 (by omega)) λv4 R4=>?_;refine Ex.bind (aL R4 (by omega) (by omega)) λv5 ⟨R5,_,_⟩=>?_;refine Ex.bind (aL R5 (by omega) (by omega)) λv6 ⟨R6,_,_⟩=>?_;exact Ex.bind (aL R6 (by omega) (by omega)) λv7 _=>Ex.ret ⟨hs,hl⟩
theorem aVm{s:DShade}{a:Int}{u w:Bool}:0<=(M.place s a u w).2:=by unfold M.place;cases !M.sLets s u w<;>cases decide (s.Frame=-1)<;>cases w&&!s.Ready<;>simp only[cTq,cFq]<;>decide
theorem aOa{xs:List Int}(hx:∀x∈xs,0<=x/\x<=255):Ex (fR xs) (λb=>b=true):=by
 have al:Ex (Option.bind iK λv=>some v) (λb=>b=true):=Ex.bind (bBr (Q:=λb=>b=true) rfl) λb hb=>Ex.ret hb;unfold fR;refine Ex.cond (λ_=>Ex.ret rfl) λ_=>?_;refine Ex.bind (aTr hx) λv ⟨hs,hl⟩=>?_;obtain⟨h,ls,g,a,u,w⟩:=v;simp only at hs hl;have hlen:=aCj (h:=h) (xs:=ls) (g:=g) (a:=a) (u:=u) (w:=w);simp only[];rw[aIa hs (by omega),oB,aIf hs (by omega),oB,dT rfl,bT,cFq,dT rfl,bT,cFq,vM (by omega),oB,bT,cFq];cases hc:M.tagsOk h ls&&(M.there h g&&M.inR 0 63 a)with
 |false=>have e:M.tagWalk h ls g a u w=([],-1,-1):=(by unfold M.tagWalk;rw[hc];rfl);rw[e];exact al
 |true=>
  simp only[bA]at hc;obtain⟨ht,hg,ha⟩:=hc;obtain⟨a0,a1⟩:=M.inR_iff.1 ha;have e:∀ys,M.tagsOk h ys=true->M.tagWalk h ys g a u w=((bif decide (M.lineFor ys g (a/8)=-1)then M.withLine ys ⟨g,a/8,M.shadeHG h g a⟩else ys),M.place (M.shadeHG h g a) a u w):=λys hy=>by unfold M.tagWalk;rw[hy,hg,ha];rfl
  obtain⟨out,ho,hok,hnl⟩:∃out,(bif decide (M.lineFor ls g (a/8)=-1)then M.withLine ls ⟨g,a/8,M.shadeHG h g a⟩else ls)=out/\M.tagsOk h out=true/\M.lineFor out g (a/8)≠-1:=(by by_cases en:M.lineFor ls g (a/8)=-1;{rw[dT en,cTq];obtain⟨w1,w2⟩:=aOb ht hg (a:=a/8) (by omega) en (t:=⟨g,a/8,M.shadeHG h g a⟩) rfl rfl rfl;exact⟨_,rfl,w1,w2⟩};{rw[dF en,cFq];exact⟨ls,rfl,ht,en⟩});have e1:=e ls ht;rw[ho]at e1;have e2:=e out hok;rw[dF hnl,cFq]at e2;have hp:=aVm (s:=M.shadeHG h g a) (a:=a) (u:=u) (w:=w);have lo:=(jX hok).2.1;have esw:M.shadowWalk h g a u w=M.place (M.shadeHG h g a) a u w:=(by unfold M.shadowWalk;rw[hg,ha];rfl);rw[e1];simp only[];rw[dF (by omega),cFq,aNi hs,oB,aIa hs (by omega),oB,e2,esw];simp only[decide_true,cTq];rw[vM (by omega),oB,cTq,aMi hs (by omega),oB,hok,cTq];exact al
theorem aOe{xs:List Int}(hx:∀x∈xs,0<=x/\x<=255):fR xs=some true:=by obtain⟨_,h,rfl⟩:=aOa hx;exact h
end Go.Proofs.Ytkjabgefacfpfaa
