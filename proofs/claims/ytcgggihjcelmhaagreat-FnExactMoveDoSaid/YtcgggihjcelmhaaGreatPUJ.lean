/- The plain functions: what they answer. -/
import Derived.Test.YtcgggihjcelmhaaGreatZY
import Derived.Test.YtcgggihjcelmhaaGreatWHE1
import Derived.Laws.Bits64
namespace Go.Proofs.YtcgggihjcelmhaaGreat
set_option linter.all false
theorem oB.{u,v} {α:Type u} {β:Type v} (a:α) (f:α->Option β):(some a).bind f=f a:=rfl
theorem dF{p:Prop}[Decidable p](h:¬p):decide p=false:=decide_eq_false h
theorem dT{p:Prop}[Decidable p](h:p):decide p=true:=decide_eq_true h
theorem cFq.{u} {α:Sort u} (a b:α):cond false a b=b:=rfl
theorem cTq.{u} {α:Sort u} (a b:α):cond true a b=a:=rfl
theorem bT:(!true)=false:=rfl
theorem bF:(!false)=true:=rfl
theorem bA(a b:Bool):((a&&b)=true)=(a=true/\b=true):=Bool.and_eq_true a b
theorem iT(n:Nat):Int.toNat (n:Int)=n:=rfl
theorem iM{a b:Int}(h:0<=a):a.tmod b=a%b:=Int.tmod_eq_emod_of_nonneg h
theorem lS.{u} {α:Type u} {xs:List α} {i:Nat} {a:α}:(xs.set i a).length=xs.length:=List.length_set
theorem aW{α:Type}[Inhabited α]{xs:List α}{i:Nat}(h:i<xs.length):xs.getD i default=xs[i]:=by simp[List.getD,h]
namespace M
def inR(lo hi n:Int):Bool:=decide (lo<=n)&&decide (n<=hi)
def wordOk(n:Int):Bool:=inR 0 4095 n
def wordsOk(xs:List Int):Bool:=xs.all wordOk
def memOk(xs:List Int):Bool:=decide (xs.length=64)&&wordsOk xs
theorem inR_iff{lo hi n:Int}:inR lo hi n=true↔lo<=n/\n<=hi:=by simp[inR]
end M
theorem bVq{b:Bool}{x:Option Bool}{y:Bool}(h:x=some y):(cond b x (some false))=some (b&&y):=by cases b<;>simp[h]
theorem xF{b y:Bool}:(cond b (some y) (some false))=some (b&&y):=by cases b<;>rfl
theorem aGr(n:Int):fN n=some (M.wordOk n):=by unfold fN;rw[xF];rfl
theorem rC(n lo hi:Int):cI n lo hi=some (M.inR lo hi n):=by unfold cI;rw[xF];rfl
theorem xG(n:Int):gZ n=some (M.wordOk n):=by unfold gZ;rw[rC];rfl
theorem aXh{a b:Int}:decide (a<b+1)=decide (a<=b):=by rw[decide_eq_decide];omega
theorem aAl {T:Type} [Inhabited T] {xs:List T} {Pf:T->Option Bool} {p:T->Bool} (hP:∀x,Pf x=some (p x)) (hl:xs.length<=9223372036854775806) (step:Int->Option (LO Int (JO Unit Bool)))
 (hs:∀k,step k=cond (decide (k<((List.length xs:Nat):Int))) (grd ((0:Int)<=k/\k<((List.length xs:Nat):Int)) (Option.bind (Pf (List.getD xs (Int.toNat k) default)) λv=>cond (!v) (some (.ret (.out false))) (some (.next (w64 (k+(1:Int))))))) (some (.ret (.go ())))):
 iter step 0=some (.ret (bif xs.all p then .go ()else .out false)):=by
 have key:∀k:Int,(0<=k/\k<=(xs.length:Int))->iter step k=some (.ret (bif (xs.drop k.toNat).all p then .go ()else .out false)):=by
  refine aAs _ (λk=>xs.length-k.toNat) _ ?_
  rintro k ⟨h0,h1⟩
  by_cases hk:k<xs.length
  · have e1:xs.drop k.toNat=xs.getD k.toNat default::xs.drop (k+1).toNat:=by
     rw[aW (by omega),show(k+1).toNat=k.toNat+1 by omega];exact List.drop_eq_getElem_cons (by omega)
    have hst:step k=cond (!p (xs.getD k.toNat default)) (some (.ret (.out false))) (some (.next (k+1))):=(by rw[hs,dT hk,cTq,aA ⟨h0,hk⟩,hP,aF (by omega) (by omega)];rfl);(cases hp:p (xs.getD k.toNat default)with|true=>refine .inl ⟨k+1,by rw[hst,hp];rfl,⟨by omega,by omega⟩,by omega,?_⟩;rw[e1,List.all_cons,hp,Bool.true_and]|false=>refine .inr ⟨λs'=>by rw[hst,hp];simp,?_⟩;rw[hst,hp,e1,List.all_cons,hp];rfl)
  {have hk2:k=xs.length:=(by omega);have hf:decide (k<((List.length xs:Nat):Int))=false:=(by simp;omega);refine .inr ⟨λs'=>by rw[hs,hf];simp,?_⟩;rw[hs,hf,hk2];simp}
 simpa using key 0 ⟨by omega,by omega⟩
theorem aHz{xs:List Int}(h:xs.length<=9223372036854775806):iL xs=some (M.wordsOk xs):=by unfold iL;rw[aAl aGr h (zE xs) (λk=>rfl)];simp only[M.wordsOk];cases xs.all M.wordOk<;>rfl
theorem bMr{xs:List Int}(h:M.memOk xs=true):xs.length=64:=by simp only[M.memOk,bA,decide_eq_true_eq]at h;exact h.1
theorem iU{xs:List Int}(h:M.wordsOk xs=true){i:Nat}(hi:i<xs.length):0<=xs.getD i default/\xs.getD i default<=4095:=by rw[aW hi];exact M.inR_iff.1 (List.all_eq_true.1 h _ (List.getElem_mem hi))
theorem aCx{xs:List Int}(h:M.wordsOk xs=true){i:Nat}{w:Int}(h0:0<=w)(h1:w<=4095):M.wordsOk (xs.set i w)=true:=by refine List.all_eq_true.2 λx hx=>?_;rcases List.mem_or_eq_of_mem_set hx with h2|rfl;{exact List.all_eq_true.1 h x h2};{exact M.inR_iff.2 ⟨h0,h1⟩}
theorem aBw{xs:List Int}(h:xs.length<=1048576):jY xs=some xs:=by
 have key:∀s:List Int×Int,(0<=s.2/\s.2<=(xs.length:Int)/\s.1.length=xs.length/\∀i,i<s.2.toNat->s.1[i]? =xs[i]?)->iter (lU xs) s=some (.ret (.go xs)):=by
  refine aAs _ (λs=>xs.length-s.2.toNat) _ ?_
  rintro⟨ys,k⟩ ⟨h0,h1,h2,h3⟩
  simp only at h0 h1 h2 h3;by_cases hk:k<xs.length;{refine .inl ⟨(ys.set k.toNat (xs.getD k.toNat default),k+1),?_,⟨by simp only;omega,by simp only;omega,by simpa using h2,?_⟩,by simp only;omega,rfl⟩;{simp only[lU,dT hk,cTq,grd,h2];rw[if_pos ⟨h0,hk⟩,if_pos ⟨h0,hk⟩,aF (by omega) (by omega)]};{intro j hj;simp only at hj ⊢;rw[List.getElem?_set];by_cases e:k.toNat=j;{subst e;rw[if_pos rfl,if_pos (by omega),aW (by omega),List.getElem?_eq_getElem (by omega)]};{rw[if_neg e];exact h3 j (by omega)}}}
  · have hy:ys=xs:=by
     apply List.ext_getElem?;intro j;by_cases hj:j<xs.length;{exact h3 j (by omega)};{rw[List.getElem?_eq_none (by omega),List.getElem?_eq_none (by omega)]}
    have hf:decide (k<(xs.length:Int))=false:=(by simp;omega);refine .inr ⟨?_,?_⟩;{intro s';simp only[lU,hf,cFq];simp};{simp only[lU,hf,cFq,hy]}
 unfold jY;rw[aA ⟨by omega,by omega,by omega⟩,key _ ⟨by simp,by simp,by simp,by simp⟩];rfl
theorem aCr{xs ys:List Int}(h:xs.length<=9223372036854775807):kB xs ys=some (decide (xs=ys)):=by
 unfold kB;by_cases hl:xs.length=ys.length
 · have key:∀k:Int,(0<=k/\k<=(xs.length:Int))->iter (fP xs ys) k=some (.ret (bif decide (xs.drop k.toNat=ys.drop k.toNat)then .go ()else .out false)):=by
    refine aAs _ (λk=>xs.length-k.toNat) _ ?_
    rintro k ⟨h0,h1⟩
    by_cases hk:k<xs.length
    · have e1:xs.drop k.toNat=xs.getD k.toNat default::xs.drop (k+1).toNat:=by
       rw[aW (by omega),show(k+1).toNat=k.toNat+1 by omega];exact List.drop_eq_getElem_cons (by omega)
      have e2:ys.drop k.toNat=ys.getD k.toNat default::ys.drop (k+1).toNat:=(by rw[aW (by omega),show(k+1).toNat=k.toNat+1 by omega];exact List.drop_eq_getElem_cons (by omega));by_cases he:xs.getD k.toNat default=ys.getD k.toNat default;{refine .inl ⟨k+1,?_,⟨by omega,by omega⟩,by omega,?_⟩;{simp only[fP,dT hk,cTq,grd];rw[if_pos ⟨h0,hk⟩,if_pos ⟨h0,by omega⟩,he,aF (by omega) (by omega)];simp};{rw[e1,e2,he];simp}};{have hf:(!decide (xs.getD k.toNat default=ys.getD k.toNat default))=true:=(by rw[dF he];rfl);refine .inr ⟨?_,?_⟩;{intro s';simp only[fP,dT hk,cTq,grd];rw[if_pos ⟨h0,hk⟩,if_pos ⟨h0,by omega⟩,hf];simp};{simp only[fP,dT hk,cTq,grd];rw[if_pos ⟨h0,hk⟩,if_pos ⟨h0,by omega⟩,hf,e1,e2];have:decide (xs.getD k.toNat default::xs.drop (k+1).toNat=ys.getD k.toNat default::ys.drop (k+1).toNat)=false:=dF λe=>he (List.cons.inj e).1;rw[this];rfl}}
    {have hk2:k=xs.length:=(by omega);subst hk2;refine .inr ⟨?_,?_⟩;{intro s';simp[fP]};{simp[fP,hl]}}
   rw[key 0 ⟨by omega,by omega⟩];have:decide ((xs.length:Int)=(ys.length:Int))=true:=(by simp[hl]);rw[this];by_cases e:xs=ys;{subst e;simp[LO.val,JO.run,aBp]};{simp[e,LO.val,JO.run]}
 {have:decide ((xs.length:Int)=(ys.length:Int))=false:=(by simp;omega);rw[this];have e:xs≠ys:=λe=>hl (by rw[e]);simp[e]}
def kG(k:Int)(n:Nat):List Int:=(List.range n).map λ(i:Nat)=>k+(i:Int)
theorem lB{k:Int}{n:Nat}:(kG k n).length=n:=by simp[kG]
theorem xR{xs:List Int}{k:Int}(h:xs.length<=9007199254740992)(h0:0<=k)(h1:k<=9007199254740992):eZ xs k=some (kG k xs.length,k+xs.length):=by
 have key:∀s:List Int×Int×Int,(0<=s.2.2/\s.2.2<=(xs.length:Int)/\s.2.1=k+s.2.2/\s.1.length=xs.length/\∀i,i<s.2.2.toNat->s.1[i]? =some (k+i))->iter fT s=some (.ret (.go (k+xs.length,kG k xs.length))):=by
  refine aAs _ (λs=>xs.length-s.2.2.toNat) _ ?_
  rintro⟨ys,q,i⟩ ⟨a0,a1,a2,a3,a4⟩
  simp only at a0 a1 a2 a3 a4;by_cases hi:i<xs.length;{refine .inl ⟨(ys.set i.toNat q,q+1,i+1),?_,⟨by simp only;omega,by simp only;omega,by simp only;omega,by simpa using a3,?_⟩,by simp only;omega,rfl⟩;{simp only[fT,a3,dT hi,cTq,grd];rw[if_pos ⟨a0,hi⟩,aF (by omega) (by omega),aF (by omega) (by omega)]};{intro j hj;simp only at hj ⊢;rw[List.getElem?_set];by_cases e:i.toNat=j;{subst e;rw[if_pos rfl,if_pos (by omega)];congr 1;omega};{rw[if_neg e];exact a4 j (by omega)}}};{have hi2:i=xs.length:=(by omega);have hy:ys=kG k xs.length:=(by apply List.ext_getElem?;intro j;by_cases hj:j<xs.length;{rw[a4 j (by omega)];simp[kG,hj]};{rw[List.getElem?_eq_none (by omega),List.getElem?_eq_none (by rw[lB];omega)]});have hf:decide (i<(ys.length:Int))=false:=(by simp;omega);refine .inr ⟨?_,?_⟩;{intro s';simp only[fT,hf,cFq];simp};{simp only[fT,hf,cFq,a2,hi2,hy];rw[<-hy,a3];simp}}
 unfold eZ;rw[key _ ⟨by simp,by simp,by simp,rfl,by simp⟩];rfl
theorem aNp{n:Nat}{k:Int}(h:n<=9007199254740992)(h0:0<=k)(h1:k<=9007199254740992):gG (kG k n) k=some (k+n):=by
 have key:∀s:Int×Int,(0<=s.2/\s.2<=(n:Int)/\s.1=k+s.2)->iter (iZ (kG k n)) s=some (.ret (.go (k+n))):=by
  refine aAs _ (λs=>n-s.2.toNat) _ ?_
  rintro⟨q,i⟩ ⟨a0,a1,a2⟩
  simp only at a0 a1 a2;by_cases hi:i<n;{refine .inl ⟨(q+1,i+1),?_,⟨by simp only;omega,by simp only;omega,by simp only;omega⟩,by simp only;omega,rfl⟩;have hl:i<((kG k n).length:Int):=(by rw[lB];exact hi);have hg:(kG k n).getD i.toNat default=q:=(by rw[aW (by rw[lB];omega)];simp only[kG,List.getElem_map,List.getElem_range];omega);simp only[iZ,dT hl,cTq,grd];rw[if_pos ⟨a0,hl⟩,hg,aF (by omega) (by omega),aF (by omega) (by omega)];simp};{have hf:decide (i<((kG k n).length:Int))=false:=(by simp[lB];omega);refine .inr ⟨?_,?_⟩;{intro s';simp only[iZ,hf,cFq];simp};{simp only[iZ,hf,cFq,a2];rw[show i=n by omega]}}
 unfold gG;rw[key _ ⟨by simp,by simp,by simp⟩];rfl
theorem aCi{xs:List Int}{left:Int}(h:xs.length<=9223372036854775807)(h0:0<=left)(h1:left<=1048576):kA xs left=some (if(xs.length:Int)<=left then left-xs.length else-1):=by unfold kA;rw[aF (by omega) (by omega)];by_cases hl:(xs.length:Int)<=left;{have:decide (left-(xs.length:Int)<0)=false:=(by simp;omega);rw[this,if_pos hl];rfl};{have:decide (left-(xs.length:Int)<0)=true:=(by simp;omega);rw[this,if_neg hl];rfl}
theorem bDk(n:Int):cN n=some (M.inR 0 63 n):=by unfold cN;rw[xF,show(64:Int)=63+1 from rfl,aXh];rfl
theorem wT(n:Int):fO n=some (M.inR 0 7 n):=by unfold fO;rw[xF,show(8:Int)=7+1 from rfl,aXh];rfl
theorem bOl(n:Int):mK n=some (M.inR (-1) 7 n):=by unfold mK;rw[wT];by_cases h:n=-1;{subst h;rfl};{rw[dF h];show some (M.inR 0 7 n)=_;congr 1;simp only[M.inR];congr 1;rw[decide_eq_decide];omega}
noncomputable instance:DecidableEq DCore:=λa b=>Classical.propDecidable (a=b)
noncomputable instance:DecidableEq DBare:=λa b=>Classical.propDecidable (a=b)
namespace M
def coreOk(c:DCore):Bool:=decide (c.Regs.length=4)&&wordsOk c.Regs&&(inR 0 63 c.Pc&&inR 0 63 c.Vector&&inR 0 63 c.Saved&&inR 0 63 c.Bad)&&inR (-1) 7 c.Root&&inR 0 4 c.Cause&&wordOk c.Timer
def rowOk(xs:List Int):Bool:=decide (xs.length<=30)&&wordsOk xs
def bareOk(b:DBare):Bool:=coreOk b.C&&memOk b.Mem&&rowOk b.In&&rowOk b.Out
end M
theorem bGs{xs:List Int}(h:xs.length<=9223372036854775806):lW xs=some (M.rowOk xs):=by unfold lW;rw[aHz h];show cond _ (some _) (some false)=_;rw[xF];simp only[M.rowOk];congr 2;rw[decide_eq_decide];omega
theorem bEv{xs:List Int}(h:xs.length<=9223372036854775806):fU xs 30=some (M.rowOk xs):=by unfold fU;rw[aAl xG h (tP xs) (λk=>rfl)];simp only[M.rowOk,M.wordsOk];cases xs.all M.wordOk;{simp[LO.val,JO.run]};{simp only[LO.val,JO.run,oB,tE,cTq,Bool.and_true];congr 1;rw[decide_eq_decide];omega}
theorem bRd{c:DCore}(h:c.Regs.length<=9223372036854775806):pR c=some (M.coreOk c):=by unfold pR;simp only[aHz h,bDk,bOl,aGr,oB];have e4:decide (((c.Regs.length:Nat):Int)=4)=decide (c.Regs.length=4):=(by rw[decide_eq_decide];omega);rw[e4];simp only[M.coreOk,M.inR];generalize decide (c.Regs.length=4)=b0;generalize M.wordsOk c.Regs=b1;generalize(decide (0<=c.Pc)&&decide (c.Pc<=63))=b2;generalize(decide (0<=c.Vector)&&decide (c.Vector<=63))=b3;generalize(decide (0<=c.Saved)&&decide (c.Saved<=63))=b4;generalize(decide (0<=c.Bad)&&decide (c.Bad<=63))=b5;generalize(decide (-1<=c.Root)&&decide (c.Root<=7))=b6;generalize decide (0<=c.Cause)=b7;generalize decide (c.Cause<=4)=b8;generalize M.wordOk c.Timer=b9;cases b0<;>cases b2<;>cases b3<;>cases b4<;>cases b7<;>cases b1<;>cases b5<;>cases b6<;>cases b8<;>rfl
theorem bOp{c:DCore}(h:c.Regs.length<=9223372036854775806):qA c=some (M.coreOk c):=by unfold qA;rw[aAl xG h (aBr c) (λk=>rfl)];simp only[M.coreOk,M.wordsOk];cases c.Regs.all M.wordOk;{simp[LO.val,JO.run]};{simp only[LO.val,JO.run,oB,aBk,cTq,Bool.and_true,rC,xG];have e4:decide (((c.Regs.length:Nat):Int)=4)=decide (c.Regs.length=4):=(by rw[decide_eq_decide];omega);rw[e4];generalize decide (c.Regs.length=4)=b0;generalize M.inR 0 63 c.Pc=b2;generalize M.inR 0 63 c.Vector=b3;generalize M.inR 0 63 c.Saved=b4;generalize M.inR 0 63 c.Bad=b5;generalize M.inR (-1) 7 c.Root=b6;generalize M.inR 0 4 c.Cause=b7;generalize M.wordOk c.Timer=b9;cases b0<;>cases b2<;>cases b3<;>cases b4<;>cases b7<;>cases b5<;>cases b6<;>rfl}
structure SmallC (c : DCore) : Prop where
 regs:c.Regs.length<=1048576
structure SmallB (b : DBare) : Prop where
 c:SmallC b.C
 mem:b.Mem.length<=1048576
 i:b.In.length<=1048576
 o:b.Out.length<=1048576
theorem bKr{c:DCore}(h:SmallC c):tX c=some c:=by unfold tX;rw[aBw h.regs];rfl
theorem bNe{a b:DCore}(h:a.Regs.length<=9223372036854775807):tY a b=some (decide (a=b)):=by unfold tY;rw[aCr h];obtain⟨r,p1,p2,p3,p4,p5,p6,p7,p8,p9,p10,p11,p12⟩:=a;obtain⟨r',q1,q2,q3,q4,q5,q6,q7,q8,q9,q10,q11,q12⟩:=b;simp only[oB,DCore.mk.injEq];by_cases h0:r=r'<;>by_cases h1:p1=q1<;>by_cases h2:p2=q2<;>by_cases h3:p3=q3<;>by_cases h4:p4=q4<;>by_cases h6:p6=q6<;>by_cases h7:p7=q7<;>by_cases h8:p8=q8<;>simp[*];cases p5<;>cases q5<;>cases p9<;>cases q9<;>cases p10<;>cases q10<;>cases p11<;>cases q11<;>cases p12<;>cases q12<;>rfl
theorem bMh{c:DCore}{left:Int}(h:c.Regs.length<=9223372036854775807)(h0:0<=left)(h1:left<=1048576):uJ c left=some (if(c.Regs.length:Int)<=left then left-c.Regs.length else-1):=by unfold uJ;rw[aCi h h0 h1];simp only[oB];split;{have:decide (left-(c.Regs.length:Int)<0)=false:=(by simp;omega);rw[this];rfl};{rfl}
theorem cDm{v:Int}(h:v<0):decide (v<0)=true:=dT h
theorem aQd{T:Type}[Inhabited T]{pre suf:List T}{x:T}:(pre++x::suf).getD pre.length default=x:=by simp[List.getD]
theorem aBz {T:Type} [Inhabited T] {xs ys:List T} {step:List T×Int->Option (LO (List T×Int) (JO (List T) (List T)))} (hl:ys.length=xs.length)
 (hs:∀(k:Nat) (zs:List T),k<xs.length->zs.length=xs.length->step (zs,(k:Int))=some (.next (zs.set k (xs.getD k default),(k:Int)+1)))
 (he:∀zs:List T,zs.length=xs.length->step (zs,(xs.length:Int))=some (.ret (.go zs))):iter step (ys,0)=some (.ret (.go xs)):=by
 have key:∀(n k:Nat) (zs:List T),k+n=xs.length->zs.length=xs.length->(∀i,i<k->zs[i]? =xs[i]?)->iter step (zs,(k:Int))=some (.ret (.go xs)):=by
  intro n;induction n with
  |zero=>intro k zs hk hz h;have e:zs=xs:=(by apply List.ext_getElem?;intro i;by_cases hi:i<k;{exact h i hi};{rw[List.getElem?_eq_none (by omega),List.getElem?_eq_none (by omega)]});have hk:k=xs.length:=(by omega);rw[dN,hk,he zs hz,e]
  |succ n ih=>
   intro k zs hk hz h;rw[dN,hs k zs (by omega) hz]
   have:=ih (k+1) (zs.set k (xs.getD k default)) (by omega) (by simpa using hz) (λi hi=>by
    rw[List.getElem?_set];by_cases e:k=i;{subst e;rw[if_pos rfl,if_pos (by omega),aW (by omega),List.getElem?_eq_getElem (by omega)]}
    · rw[if_neg e];exact h i (by omega))
   simpa using this
 simpa using key xs.length 0 ys (by omega) hl (by simp)
def cC{T:Type}(m:T->Int->T×Int):List T->Int->List T×Int
 |[],k=>([],k)
 |x::xs,k=>((m x k).1::(cC m xs (m x k).2).1,(cC m xs (m x k).2).2)
theorem rE{T:Type}{m:T->Int->T×Int}:∀{xs:List T} {k:Int},(cC m xs k).1.length=xs.length
 |[],_=>rfl
 |x::xs,k=>by simp[cC,rE]
theorem aGd{T:Type}{m:T->Int->T×Int}{C:Int}:∀{xs:List T} {k:Int},(∀x∈xs,∀k,k<=(m x k).2/\(m x k).2<=k+C)->k<=(cC m xs k).2/\(cC m xs k).2<=k+xs.length*C
 |[],k,_=>by simp[cC]
 |x::xs,k,h=>by have h1:=h x (by simp) k;have h2:=aGd (xs:=xs) (k:=(m x k).2) λy hy=>h y (by simp[hy]);simp only[cC,List.length_cons];have:((xs.length+1:Nat):Int)*C=(xs.length:Int)*C+C:=(by rw[Int.natCast_add,Int.add_mul];simp);omega
theorem aJj {T:Type} [Inhabited T] {m:T->Int->T×Int} {C B:Int} {step:List T×Int×Int->Option (LO (List T×Int×Int) (JO (Int×List T) (List T×Int)))} {xs:List T} {k:Int}
 (hm:∀x∈xs,∀k,k<=(m x k).2/\(m x k).2<=k+C) (hk:0<=k) (hB:k+xs.length*C<=B) (hC:0<=C)
 (hs:∀(zs:List T) (i:Nat) (q:Int),zs.length=xs.length->i<zs.length->zs.getD i default∈xs->0<=q->q<=B-C->step (zs,q,(i:Int))=some (.next (zs.set i (m (zs.getD i default) q).1,(m (zs.getD i default) q).2,(i:Int)+1)))
 (he:∀(zs:List T) (q:Int),zs.length=xs.length->step (zs,q,(zs.length:Int))=some (.ret (.go (q,zs)))):iter step (xs,k,0)=some (.ret (.go ((cC m xs k).2,(cC m xs k).1))):=by
 have key:∀(suf pre:List T) (q:Int),(pre++suf).length=xs.length->(∀x∈suf,x∈xs)->0<=q->q+suf.length*C<=B->iter step (pre++suf,q,(pre.length:Int))=some (.ret (.go ((cC m suf q).2,pre++(cC m suf q).1))):=by
  intro suf;induction suf with
  |nil=>intro pre q hl _ _ _;rw[List.append_nil]at hl ⊢;rw[dN,he pre q hl];simp[cC]
  |cons x suf ih=>intro pre q hl hx hq hb;have e1:(pre++x::suf).getD pre.length default=x:=aQd;have hb1:((suf.length+1:Nat):Int)*C=(suf.length:Int)*C+C:=(by rw[Int.natCast_add,Int.add_mul];simp);have hnn:0<=(suf.length:Int)*C:=Int.mul_nonneg (by omega) hC;simp only[List.length_cons]at hb;have h1:=hm x (hx x (by simp)) q;rw[dN,hs (pre++x::suf) pre.length q hl (by simp) (by rw[e1];exact hx x (by simp)) hq (by omega)];rw[e1];have e2:(pre++x::suf).set pre.length (m x q).1=(pre++[(m x q).1])++suf:=(by simp);have:=ih (pre++[(m x q).1]) (m x q).2 (by simpa using hl) (λy hy=>hx y (by simp[hy])) (by omega) (by omega);simp only[List.length_append,List.length_cons,List.length_nil,Nat.zero_add,Int.natCast_add]at this;simp only[e2];rw[show((1:Nat):Int)=1 from rfl]at this;rw[this];simp[cC]
 simpa using key xs [] k rfl (λ_ h=>h) hk hB
theorem aJq {T:Type} [Inhabited T] {m:T->Int->T×Int} {C B:Int} {step:List T->Int×Int->Option (LO (Int×Int) (JO Int Int))} {xs:List T} {k:Int}
 (hm:∀x∈xs,∀k,k<=(m x k).2/\(m x k).2<=k+C) (hk:0<=k) (hB:k+xs.length*C<=B) (hC:0<=C)
 (hs:∀(zs:List T) (i:Nat) (x:T) (q:Int),zs.length=xs.length->i<zs.length->x∈xs->0<=q->q<=B-C->zs.getD i default=(m x q).1->step zs (q,(i:Int))=some (.next ((m x q).2,(i:Int)+1)))
 (he:∀(zs:List T) (q:Int),zs.length=xs.length->step zs (q,(zs.length:Int))=some (.ret (.go q))):iter (step (cC m xs k).1) (k,0)=some (.ret (.go (cC m xs k).2)):=by
 have key:∀(suf pre:List T) (q:Int),(pre++suf).length=xs.length->(∀x∈suf,x∈xs)->0<=q->q+suf.length*C<=B->iter (step (pre++(cC m suf q).1)) (q,(pre.length:Int))=some (.ret (.go (cC m suf q).2)):=by
  intro suf;induction suf with
  |nil=>intro pre q hl _ _ _;simp only[cC];rw[List.append_nil]at hl ⊢;rw[dN,he pre q hl]
  |cons x suf ih=>intro pre q hl hx hq hb;have hb1:((suf.length+1:Nat):Int)*C=(suf.length:Int)*C+C:=(by rw[Int.natCast_add,Int.add_mul];simp);have hnn:0<=(suf.length:Int)*C:=Int.mul_nonneg (by omega) hC;simp only[List.length_cons]at hb;have h1:=hm x (hx x (by simp)) q;simp only[cC];have e1:(pre++(m x q).1::(cC m suf (m x q).2).1).getD pre.length default=(m x q).1:=aQd;rw[dN,hs _ pre.length x q (by simpa[rE]using hl) (by simp) (hx x (by simp)) hq (by omega) e1];have:=ih (pre++[(m x q).1]) (m x q).2 (by simpa using hl) (λy hy=>hx y (by simp[hy])) (by omega) (by omega);simp only[List.length_append,List.length_cons,List.length_nil,Nat.zero_add,Int.natCast_add,List.append_assoc,List.cons_append,List.nil_append]at this;rw[show((1:Nat):Int)=1 from rfl]at this;exact this
 simpa using key xs [] k rfl (λ_ h=>h) hk hB
theorem aUe {T:Type} [Inhabited T] {xs ys:List T} {step:Int->Option (LO Int (JO Unit Bool))} {d:T->T->Bool} (hd:∀x∈xs,∀y,d x y=true↔x=y) (hl:xs.length=ys.length)
 (hs:∀i:Nat,i<xs.length->xs.getD i default∈xs->step (i:Int)=some (bif d (xs.getD i default) (ys.getD i default)then .next ((i:Int)+1)else .ret (.out false)))
 (he:step (xs.length:Int)=some (.ret (.go ()))):∃b:Bool,iter step 0=some (.ret (bif b then .go ()else .out false))/\(b=true↔xs=ys):=by
 have key:∀(n k:Nat),k+n=xs.length->∃b:Bool,iter step (k:Int)=some (.ret (bif b then .go ()else .out false))/\(b=true↔xs.drop k=ys.drop k):=by
  intro n;induction n with
  |zero=>intro k hk;have hk:k=xs.length:=(by omega);refine⟨true,by rw[dN,hk,he];rfl,?_⟩;subst hk;simp[hl]
  |succ n ih=>
   intro k hk;have hm:xs.getD k default∈xs:=(by rw[aW (by omega)];exact List.getElem_mem _);have e1:xs.drop k=xs.getD k default::xs.drop (k+1):=(by rw[aW (by omega)];exact List.drop_eq_getElem_cons (by omega));have e2:ys.drop k=ys.getD k default::ys.drop (k+1):=(by rw[aW (by omega)];exact List.drop_eq_getElem_cons (by omega));rw[dN,hs k (by omega) hm,e1,e2];cases hdd:d (xs.getD k default) (ys.getD k default)with
   |true=>obtain⟨b,h1,h2⟩:=ih (k+1) (by omega);refine⟨b,by simpa using h1,?_⟩;rw[h2,(hd _ hm _).1 hdd];simp
   |false=>
    refine⟨false,by simp,?_⟩;have:xs.getD k default≠ys.getD k default:=λe=>by rw[(hd _ hm _).2 e]at hdd;cases hdd
    simp only[List.cons.injEq,Bool.false_eq_true,false_iff];exact λh=>this h.1
 obtain⟨b,h1,h2⟩:=key xs.length 0 (by omega);exact⟨b,by simpa using h1,by simpa using h2⟩
section
variable {T σ S R : Type} [Inhabited T]
theorem uV {xs:List T} {step:S->Option (LO S R)} (enc:σ->Int->S) (p:T->Bool) (g:σ->T->σ) (fin:σ->R) (r:R) (Inv:Nat->σ->Prop)
 (hs:∀(i:Nat) x s,(i:Int)<(xs.length:Int)->x∈xs->xs.getD i default=x->Inv i s->step (enc s i)=some (bif p x then .next (enc (g s x) ((i:Int)+1))else .ret r)/\(p x=true->Inv (i+1) (g s x)))
 (he:∀s,Inv xs.length s->step (enc s xs.length)=some (.ret (fin s))) (s:σ) (hi:Inv 0 s):
 iter step (enc s 0)=some (.ret (bif xs.all p then fin (xs.foldl g s)else r))/\(xs.all p=true->Inv xs.length (xs.foldl g s)):=by
 have key:∀(suf pre:List T) (s:σ),xs=pre++suf->Inv pre.length s->iter step (enc s pre.length)=some (.ret (bif suf.all p then fin (suf.foldl g s)else r))/\(suf.all p=true->Inv xs.length (suf.foldl g s)):=by
  intro suf;induction suf with
  |nil=>intro pre s hx hi;rw[List.append_nil]at hx;subst hx;rw[dN,he s hi];exact⟨rfl,λ_=>hi⟩
  |cons x suf ih=>intro pre s hx hi;obtain⟨h1,h2⟩:=hs pre.length x s (by rw[hx];simp;omega) (by rw[hx];simp) (by rw[hx];simp[List.getD]) hi;rw[dN,h1];(cases hp:p x with|false=>simp[List.all_cons,hp]|true=>obtain⟨g1,g2⟩:=ih (pre++[x]) (g s x) (by rw[hx];simp) (by simpa using h2 hp);simp only[List.length_append,List.length_cons,List.length_nil,Nat.zero_add,Int.natCast_add]at g1;simp only[cTq,List.all_cons,hp,Bool.true_and,List.foldl_cons];exact⟨g1,g2⟩)
 simpa using key xs [] s rfl hi
theorem vN {xs:List T} {step:S->Option (LO S R)} (enc:σ->Int->S) (g:σ->T->σ) (fin:σ->R) (Inv:Nat->σ->Prop)
 (hs:∀(i:Nat) x s,(i:Int)<(xs.length:Int)->x∈xs->xs.getD i default=x->Inv i s->step (enc s i)=some (.next (enc (g s x) ((i:Int)+1)))/\Inv (i+1) (g s x))
 (he:∀s,Inv xs.length s->step (enc s xs.length)=some (.ret (fin s))) (s:σ) (hi:Inv 0 s):
 iter step (enc s 0)=some (.ret (fin (xs.foldl g s)))/\Inv xs.length (xs.foldl g s):=by
 have h:=uV (p:=λ_=>true) enc g fin (fin s) Inv (λi x s h1 h2 h3 h4=>⟨(hs i x s h1 h2 h3 h4).1,λ_=>(hs i x s h1 h2 h3 h4).2⟩) he s hi;have e:xs.all (λ_=>true)=true:=(by simp);rw[e]at h;exact⟨h.1,h.2 rfl⟩
theorem aEz {n:Nat} {step:S->Option (LO S R)} (enc:σ->Int->S) (g:σ->Nat->σ) (fin:σ->R) (Inv:Nat->σ->Prop)
 (hs:∀(i:Nat) s,i<n->Inv i s->step (enc s i)=some (.next (enc (g s i) ((i:Int)+1)))/\Inv (i+1) (g s i))
 (he:∀s,Inv n s->step (enc s n)=some (.ret (fin s))) (s:σ) (hi:Inv 0 s):
 iter step (enc s 0)=some (.ret (fin ((List.range n).foldl g s)))/\Inv n ((List.range n).foldl g s):=by
 have h:=vN (xs:=List.range n) enc g fin Inv (λi x s h1 h2 h3 h4=>by have hi:i<n:=(by simpa using h1);have:x=i:=(by rw[<-h3];simp[List.getD,hi]);subst this;exact hs x s hi h4) (by simpa using he) s hi;simpa using h
theorem aVy {n:Nat} {step:S->Option (LO S R)} (enc:Int->S) (p:Nat->Bool) (a r:R)
 (hs:∀(i:Nat),i<n->step (enc i)=some (bif p i then .next (enc ((i:Int)+1))else .ret r))
 (he:step (enc n)=some (.ret a)):
 iter step (enc 0)=some (.ret (bif (List.range n).all p then a else r)):=by
 have h:=uV (xs:=List.range n) (σ:=Unit) (λ_ k=>enc k) p (λ_ _=>()) (λ_=>a) r (λ_ _=>True) (λi x s h1 h2 h3 h4=>by have hi:i<n:=(by simpa using h1);have:x=i:=(by rw[<-h3];simp[List.getD,hi]);subst this;exact⟨hs x hi,λ_=>trivial⟩) (λs _=>by simpa using he) () trivial;exact h.1
theorem hM {n:Nat} {step:S->Option (LO S R)} (st:Nat->S) (ok:Nat->Bool) (a r:R)
 (hs:∀(i:Nat),i<n->(∀j,j<i->ok j=true)->step (st i)=some (bif ok i then .next (st (i+1))else .ret r))
 (he:(∀j,j<n->ok j=true)->step (st n)=some (.ret a)):
 iter step (st 0)=some (.ret (bif (List.range n).all ok then a else r)):=by
 have key:∀m i,i+m=n->(∀j,j<i->ok j=true)->iter step (st i)=some (.ret (bif (List.range n).all ok then a else r)):=by
  intro m;induction m with
  |zero=>intro i hi ho;have:i=n:=(by omega);subst this;have e:(List.range i).all ok=true:=(by simp only[List.all_eq_true,List.mem_range];exact ho);rw[dN,he ho,e];rfl
  |succ m ih=>intro i hi ho;rw[dN,hs i (by omega) ho];(cases e:ok i with|true=>refine ih (i+1) (by omega) ?_;intro j hj;by_cases h:j=i;{rw[h,e]};{exact ho j (by omega)}|false=>have e2:(List.range n).all ok=false:=(by rw[List.all_eq_false];exact⟨i,by rw[List.mem_range];omega,by rw[e];simp⟩);rw[e2];rfl)
 exact key n 0 (by omega) λj hj=>by omega
end
theorem sX{α β σ:Type}{f:α->List β}{g:σ->β->σ}:∀{xs:List α} {s:σ},xs.foldl (λs x=>(f x).foldl g s) s=(xs.flatMap f).foldl g s
 |[],_=>rfl
 |x::xs,s=>by simp only[List.foldl_cons,List.flatMap_cons,List.foldl_append];exact sX
noncomputable instance:DecidableEq DSlot:=λa b=>Classical.propDecidable (a=b)
noncomputable instance:DecidableEq DGuest:=λa b=>Classical.propDecidable (a=b)
noncomputable instance:DecidableEq DHost:=λa b=>Classical.propDecidable (a=b)
structure SmallG (g : DGuest) : Prop where
 c:SmallC g.C
 pages:g.Pages.length<=1048576
 i:g.In.length<=1048576
 o:g.Out.length<=1048576
structure SmallH (h : DHost) : Prop where
 words:h.Words.length<=1048576
 guests:h.Guests.length<=1048576
 all:∀g∈h.Guests,SmallG g
theorem cM{T:Type}[Inhabited T]{xs:List T}{k:Nat}(h:k<xs.length):xs.getD k default∈xs:=by rw[aW h];exact List.getElem_mem _
namespace M
def noCore:DCore:=⟨[],0,0,0,0,false,0,0,0,false,false,false,false⟩
def noGuest:DGuest:=⟨false,noCore,[],[],[]⟩
def slotOk(s:DSlot):Bool:=bif decide (s.Frame=-1)then !s.Write&&!s.Dirty else decide (0<=s.Frame)&&decide (s.Frame<20)
noncomputable def guestOk (g:DGuest):Bool:=bif g.Live then coreOk g.C&&(decide (g.Pages.length=8)&&g.Pages.all slotOk)&&rowOk g.In&&rowOk g.Out else decide (g=noGuest)
def slots(gs:List DGuest):List DSlot:=gs.flatMap (·.Pages)
def many(ss:List DSlot)(f:Int):Nat:=ss.countP λs=>decide (s.Frame=f)
def alone(ss:List DSlot):Bool:=ss.all λs=>!s.Write||decide (many ss s.Frame<=1)
def bump(xs:List Int)(s:DSlot):List Int:=bif decide (s.Frame=-1)then xs else xs.set s.Frame.toNat (xs.getD s.Frame.toNat default+1)
def takers(ss:List DSlot):List Int:=ss.foldl bump (List.replicate 20 0)
noncomputable def hostOk (h:DHost):Bool:=decide (h.Words.length=160)&&wordsOk h.Words&&(decide (h.Guests.length=3)&&h.Guests.all guestOk)&&alone (slots h.Guests)
end M
theorem bQs(s:DSlot):uK s=some (M.slotOk s):=by unfold uK M.slotOk;by_cases h:s.Frame=-1;{rw[dT h];cases s.Write<;>rfl};{rw[dF h];simp only[cFq];exact xF}
theorem bLh{xs:List DSlot}(h:xs.length<=9223372036854775806):sK xs=some (decide (xs.length=8)&&xs.all M.slotOk):=by unfold sK;by_cases hl:xs.length=8;{have:decide (((xs.length:Nat):Int)=8)=true:=(by simp;omega);rw[this,bT,cFq,aAl bQs h (zF xs) (λk=>rfl),dT hl];cases xs.all M.slotOk<;>rfl};{have:decide (((xs.length:Nat):Int)=8)=false:=(by simp;omega);rw[this,dF hl];rfl}
theorem dbe{a b:Bool}(h:a=true↔b=true):a=b:=Bool.eq_iff_iff.2 h
theorem bJw(c:DCore):qL c=some (decide (c=M.noCore)):=by obtain⟨a1,a2,a3,a4,a5,a6,a7,a8,a9,a10,a11,a12,a13⟩:=c;unfold qL;simp only[];by_cases h2:a2=0;{by_cases h3:a3=0;{by_cases h4:a4=0;{by_cases h5:a5=0;{by_cases h1:a1=[];{by_cases h8:a8=0;{by_cases h7:a7=0;{by_cases h9:a9=0;{subst h1 h2 h3 h4 h5 h7 h8 h9;cases a6<;>cases a10<;>cases a11<;>cases a12<;>cases a13<;>simp[M.noCore]};{rw[dF (p:=DCore.mk _ _ _ _ _ _ _ _ _ _ _ _ _=M.noCore) (by simp[M.noCore,h9])];simp only[dF h9];cases a6<;>cases a10<;>cases a11<;>cases a12<;>simp}};{rw[dF (p:=DCore.mk _ _ _ _ _ _ _ _ _ _ _ _ _=M.noCore) (by simp[M.noCore,h7])];simp only[dF h7];cases a6<;>cases a10<;>cases a11<;>cases a12<;>simp}};{rw[dF (p:=DCore.mk _ _ _ _ _ _ _ _ _ _ _ _ _=M.noCore) (by simp[M.noCore,h8])];simp only[dF h8];cases a6<;>cases a10<;>cases a11<;>cases a12<;>simp}};{rw[dF (p:=DCore.mk _ _ _ _ _ _ _ _ _ _ _ _ _=M.noCore) (by simp[M.noCore,h1])];have:decide (((a1.length:Nat):Int)=0)=false:=(by simp[h1]);simp only[this];cases a6<;>cases a10<;>cases a11<;>cases a12<;>simp}};{rw[dF (p:=DCore.mk _ _ _ _ _ _ _ _ _ _ _ _ _=M.noCore) (by simp[M.noCore,h5])];simp only[dF h5];cases a6<;>cases a10<;>cases a11<;>cases a12<;>simp}};{rw[dF (p:=DCore.mk _ _ _ _ _ _ _ _ _ _ _ _ _=M.noCore) (by simp[M.noCore,h4])];simp only[dF h4];cases a6<;>cases a10<;>cases a11<;>cases a12<;>simp}};{rw[dF (p:=DCore.mk _ _ _ _ _ _ _ _ _ _ _ _ _=M.noCore) (by simp[M.noCore,h3])];simp only[dF h3];cases a6<;>cases a10<;>cases a11<;>cases a12<;>simp}};{rw[dF (p:=DCore.mk _ _ _ _ _ _ _ _ _ _ _ _ _=M.noCore) (by simp[M.noCore,h2])];simp only[dF h2];cases a6<;>cases a10<;>cases a11<;>cases a12<;>simp}
theorem aYo{g:DGuest}(hl:g.Live=false):nW g=some (decide (g=M.noGuest)):=by unfold nW;rw[bJw,oB];obtain⟨l,c,p,i,o⟩:=g;simp only at hl;subst hl;simp only[M.noGuest,DGuest.mk.injEq,true_and];by_cases h1:c=M.noCore<;>by_cases h2:p=[]<;>by_cases h3:i=[]<;>by_cases h4:o=[]<;>simp[h1,h2,h3,h4]
theorem bYp{g:DGuest}(hl:g.Live=false):pT g=some (decide (g=M.noGuest)):=by
 unfold pT;obtain⟨l,⟨a1,a2,a3,a4,a5,a6,a7,a8,a9,a10,a11,a12,a13⟩,p,i,o⟩:=g;simp only at hl;subst hl;simp only[bVq rfl,xF];congr 1;apply dbe;simp only[bA,decide_eq_true_eq,Bool.not_eq_true',M.noGuest,M.noCore,DGuest.mk.injEq,DCore.mk.injEq,true_and,Int.natCast_eq_zero,List.length_eq_zero_iff];constructor
 · rintro⟨h1,h2,h3,h4,h5,h6,h7,h8,h9,h10,h11,h12,h13,h14,h15,h16⟩;exact⟨⟨h1,h2,h3,h4,h5,h6,h7,h8,h9,h10,h11,h12,h13⟩,h14,h15,h16⟩
 · rintro⟨⟨h1,h2,h3,h4,h5,h6,h7,h8,h9,h10,h11,h12,h13⟩,h14,h15,h16⟩;exact⟨h1,h2,h3,h4,h5,h6,h7,h8,h9,h10,h11,h12,h13,h14,h15,h16⟩
theorem bLx{g:DGuest}(h:SmallG g):oC g=some (M.guestOk g):=by have:=h.c.regs;have:=h.pages;have:=h.i;have:=h.o;unfold oC M.guestOk;(cases hl:g.Live with|false=>simp only[bF,cTq,aYo hl,oB,cFq]|true=>simp only[bT,cFq,cTq];rw[bRd (by omega),bLh (by omega),bGs (by omega),bGs (by omega)];simp only[oB];cases M.coreOk g.C<;>cases(decide (g.Pages.length=8)&&g.Pages.all M.slotOk)<;>cases M.rowOk g.In<;>rfl)
theorem bIn{gs:List DGuest}(hl:gs.length<=1048576)(h:∀g∈gs,SmallG g):qT gs=some (decide (gs.length=3)&&gs.all M.guestOk):=by
 unfold qT;by_cases hl:gs.length=3
 · have:decide (((gs.length:Nat):Int)=3)=true:=by simp;omega
   rw[this,bT,cFq,dT hl,Bool.true_and]
   have key:=(uV (xs:=gs) (σ:=Unit) (step:=mP gs) (λ_ k=>k) M.guestOk (λ_ _=>()) (λ_=>JO.go ()) (.out false) (λ_ _=>True) (λi x s h1 h2 h3 h4=>by
    refine⟨?_,λ_=>trivial⟩;simp only[mP,dT h1,cTq];rw[aA ⟨by omega,h1⟩,iT,h3];show Option.bind (oC x) _=_;rw[bLx (h x h2),oB,aF (by omega) (by omega)];cases M.guestOk x<;>rfl) (λs _=>by
    simp only[mP];rw[dF (by omega),cFq]) () trivial).1
   rw[key];cases gs.all M.guestOk<;>rfl
 {have:decide (((gs.length:Nat):Int)=3)=false:=(by simp;omega);rw[this,dF hl];rfl}
theorem wZ{xs:List Int}{i j:Nat}{v:Int}(hi:i<xs.length):(xs.set i v).getD j default=if i=j then v else xs.getD j default:=by by_cases h:i=j;{subst h;simp[List.getD,hi]};{simp[List.getD,List.getElem?_set,h]}
theorem bBx{xs:List Int}{s:DSlot}:(M.bump xs s).length=xs.length:=by unfold M.bump;cases decide (s.Frame=-1)<;>simp
theorem lA{s:DSlot}(h:M.slotOk s=true):-1<=s.Frame/\s.Frame<20:=by unfold M.slotOk at h;by_cases e:s.Frame=-1;{omega};{rw[dF e,cFq,bA,decide_eq_true_eq,decide_eq_true_eq]at h;omega}
theorem bAt{xs:List Int}{s:DSlot}(hl:xs.length=20)(h:M.slotOk s=true){f:Nat}(hf:f<20):(M.bump xs s).getD f default=xs.getD f default+(if s.Frame=(f:Int)then 1 else 0):=by have hr:=lA h;unfold M.bump;by_cases e:s.Frame=-1;{rw[dT e,cTq,if_neg (by omega)];omega};{rw[dF e,cFq,wZ (by omega)];by_cases e2:s.Frame=(f:Int);{rw[if_pos (by omega),if_pos e2];congr 2;omega};{rw[if_neg (by omega),if_neg e2];omega}}
theorem jC{s:DSlot}{ss:List DSlot}{f:Int}:M.many (s::ss) f=M.many ss f+(if s.Frame=f then 1 else 0):=by simp only[M.many,List.countP_cons,decide_eq_true_eq]
theorem aJc{f:Nat}(hf:f<20):∀{ss:List DSlot} {xs:List Int},xs.length=20->ss.all M.slotOk=true->(ss.foldl M.bump xs).length=20/\(ss.foldl M.bump xs).getD f default=xs.getD f default+(M.many ss f:Int)
 |[],xs,hl,_=>⟨hl,by simp[M.many]⟩
 |s::ss,xs,hl,h=>by rw[List.all_cons,bA]at h;obtain⟨h1,h2⟩:=aJc hf (ss:=ss) (xs:=M.bump xs s) (by rw[bBx,hl]) h.2;refine⟨h1,?_⟩;rw[List.foldl_cons,h2,bAt hl h.1 hf,jC];split<;>simp<;>omega
theorem rR{ss:List DSlot}(h:ss.all M.slotOk=true):(M.takers ss).length=20:=(aJc (f:=0) (by omega) (xs:=List.replicate 20 0) (by simp) h).1
theorem wD{ss:List DSlot}(h:ss.all M.slotOk=true){f:Nat}(hf:f<20):(M.takers ss).getD f default=(M.many ss f:Int):=by unfold M.takers;rw[(aJc (f:=f) hf (xs:=List.replicate 20 0) (by simp) h).2];have:(List.replicate 20 (0:Int)).getD f default=0:=(by rw[aW (by rw[List.length_replicate];omega),List.getElem_replicate]);omega
theorem iS{g:DGuest}(h:M.guestOk g=true):g.Pages.all M.slotOk=true/\g.Pages.length<=8:=by unfold M.guestOk at h;(cases hl:g.Live with|true=>rw[hl,cTq]at h;simp only[bA,decide_eq_true_eq]at h;exact⟨h.1.1.2.2,by omega⟩|false=>rw[hl,cFq,decide_eq_true_eq]at h;rw[h];exact⟨rfl,by simp[M.noGuest]⟩)
theorem vL{gs:List DGuest}(h:gs.all M.guestOk=true):(M.slots gs).all M.slotOk=true:=by simp only[M.slots,List.all_flatMap,List.all_eq_true]at h ⊢;exact λg hg=>List.all_eq_true.1 (iS (h g hg)).1
structure Tl (B : Nat) (xs : List Int) : Prop where
 len:xs.length=20
 low:∀i,i<20->0<=xs.getD i default
 top:∀i,i<20->xs.getD i default<=(B:Int)
theorem Tl.mono{B C:Nat}{xs:List Int}(h:Tl B xs)(hB:B<=C):Tl C xs:=⟨h.len,h.low,λi hi=>by have:=h.top i hi;omega⟩
theorem Tl.bump{B:Nat}{xs:List Int}{s:DSlot}(h:Tl B xs)(hs:M.slotOk s=true):Tl (B+1) (M.bump xs s):=by refine⟨by rw[bBx,h.len],λi hi=>?_,λi hi=>?_⟩;all_goals rw[bAt h.len hs hi];have:=h.low i hi;have:=h.top i hi;split<;>omega
theorem Tl.zero:Tl 0 (List.replicate 20 0):=by refine⟨by simp,λi hi=>?_,λi hi=>?_⟩;all_goals rw[aW (by rw[List.length_replicate];omega),List.getElem_replicate];omega
theorem bJc{xs:List DSlot}(h:xs.length<=1048576):rT xs=some xs:=by
 have key:=aBz (xs:=xs) (ys:=List.replicate (Int.toNat (xs.length:Int)) (DSlot.mk 0 false false)) (step:=nP xs) (by simp) (λk zs hk hz=>by
  have h1:(k:Int)<(xs.length:Int):=(by omega);simp only[nP,dT h1,cTq,hz];rw[aA ⟨by omega,h1⟩,iT];show Option.bind (some (xs.getD k default)) _=_;rw[oB,aA ⟨by omega,h1⟩,aF (by omega) (by omega)]) (λzs hz=>by
  simp only[nP];rw[dF (by omega),cFq])
 unfold rT;rw[aA ⟨by omega,by omega,by omega⟩,key];rfl
theorem bHo{g:DGuest}(h:SmallG g):oN g=some g:=by unfold oN;rw[bKr h.c,bJc h.pages,aBw h.i,aBw h.o];rfl
theorem bDa{xs:List DGuest}(h:xs.length<=1048576)(hs:∀g∈xs,SmallG g):qU xs=some xs:=by
 have key:=aBz (xs:=xs) (ys:=List.replicate (Int.toNat (xs.length:Int)) (DGuest.mk false (DCore.mk ([]:List Int) (0:Int) (0:Int) (0:Int) (0:Int) false (0:Int) (0:Int) (0:Int) false false false false) ([]:List DSlot) ([]:List Int) ([]:List Int))) (step:=mZ xs) (by simp) (λk zs hk hz=>by
  have h1:(k:Int)<(xs.length:Int):=(by omega);simp only[mZ,dT h1,cTq,hz];rw[aA ⟨by omega,h1⟩,iT];show Option.bind (oN (xs.getD k default)) _=_;rw[bHo (hs _ (cM hk)),oB,aA ⟨by omega,h1⟩,aF (by omega) (by omega)]) (λzs hz=>by
  simp only[mZ];rw[dF (by omega),cFq])
 unfold qU;rw[aA ⟨by omega,by omega,by omega⟩,key];rfl
theorem aWk{h:DHost}(hs:SmallH h):pU h=some h:=by unfold pU;rw[aBw hs.words,bDa hs.guests hs.all];rfl
theorem bNs{a b:DSlot}:pQ a b=some (decide (a=b)):=by obtain⟨f,w,d⟩:=a;obtain⟨f',w',d'⟩:=b;unfold pQ;simp only[DSlot.mk.injEq];by_cases h:f=f'<;>cases w<;>cases w'<;>cases d<;>cases d'<;>simp[h]
theorem bHc{xs ys:List DSlot}(h:xs.length<=9223372036854775806):sB xs ys=some (decide (xs=ys)):=by
 unfold sB;by_cases hl:xs.length=ys.length
 · obtain⟨b,h1,h2⟩:=aUe (xs:=xs) (ys:=ys) (step:=nX xs ys) (d:=λx y=>decide (x=y)) (λx _ y=>decide_eq_true_iff) hl (λi hi _=>by
    have e1:(i:Int)<(xs.length:Int):=(by omega);simp only[nX,dT e1,cTq];rw[aA ⟨by omega,e1⟩,aA ⟨by omega,by omega⟩,iT];show Option.bind (pQ (xs.getD i default) (ys.getD i default)) _=_;rw[bNs,oB,aF (by omega) (by omega)];cases decide (xs.getD i default=ys.getD i default)<;>rfl) (by
    simp only[nX];rw[dF (by omega),cFq])
   rw[h1,dT (by omega)];have e:decide (xs=ys)=b:=(by rw[Bool.eq_iff_iff,decide_eq_true_iff];exact h2.symm);rw[e];cases b<;>rfl
 {rw[dF (by omega),dF (λe=>hl (by rw[e]))];rfl}
theorem bIr{a b:DGuest}(h:SmallG a):oD a b=some (decide (a=b)):=by have:=h.c.regs;have:=h.pages;have:=h.i;have:=h.o;unfold oD;rw[bNe (by omega),bHc (by omega),aCr (by omega),aCr (by omega)];obtain⟨l,c,p,i,o⟩:=a;obtain⟨l',c',p',i',o'⟩:=b;simp only[oB,DGuest.mk.injEq];by_cases h1:c=c'<;>by_cases h2:p=p'<;>by_cases h3:i=i'<;>by_cases h4:o=o'<;>cases l<;>cases l'<;>simp[*]
theorem bDd{xs ys:List DGuest}(h:xs.length<=1048576)(hs:∀g∈xs,SmallG g):qP xs ys=some (decide (xs=ys)):=by
 unfold qP;by_cases hl:xs.length=ys.length
 · obtain⟨b,h1,h2⟩:=aUe (xs:=xs) (ys:=ys) (step:=mW xs ys) (d:=λx y=>decide (x=y)) (λx _ y=>decide_eq_true_iff) hl (λi hi hm=>by
    have e1:(i:Int)<(xs.length:Int):=(by omega);simp only[mW,dT e1,cTq];rw[aA ⟨by omega,e1⟩,aA ⟨by omega,by omega⟩,iT];show Option.bind (oD (xs.getD i default) (ys.getD i default)) _=_;rw[bIr (hs _ hm),oB,aF (by omega) (by omega)];cases decide (xs.getD i default=ys.getD i default)<;>rfl) (by
    simp only[mW];rw[dF (by omega),cFq])
   rw[h1,dT (by omega)];have e:decide (xs=ys)=b:=(by rw[Bool.eq_iff_iff,decide_eq_true_iff];exact h2.symm);rw[e];cases b<;>rfl
 {rw[dF (by omega),dF (λe=>hl (by rw[e]))];rfl}
theorem aUz{a b:DHost}(h:SmallH a):pS a b=some (decide (a=b)):=by have:=h.words;unfold pS;rw[aCr (by omega),bDd h.guests h.all];obtain⟨w,g⟩:=a;obtain⟨w',g'⟩:=b;simp only[oB,DHost.mk.injEq];by_cases h1:w=w'<;>by_cases h2:g=g'<;>simp[*]
theorem bIm{xs:List DSlot}{left:Int}(h:xs.length<=9223372036854775807)(h0:0<=left)(h1:left<=1048576):sV xs left=some (if(xs.length:Int)<=left then left-xs.length else-1):=by unfold sV;rw[aF (by omega) (by omega)];by_cases hl:(xs.length:Int)<=left;{rw[dF (by omega),if_pos hl];rfl};{rw[dT (by omega),if_neg hl];rfl}
structure FitG (g : DGuest) : Prop where
 c:g.C.Regs.length<=9223372036854775807
 pages:g.Pages.length<=9223372036854775807
 i:g.In.length<=9223372036854775807
 o:g.Out.length<=9223372036854775807
theorem bIo{g:DGuest}{left:Int}(h:FitG g)(h0:0<=left)(h1:left<=1048576):∃v,oK g left=some v/\(v<0\/(0<=v/\v<=left/\SmallG g)):=by have:=h.c;have:=h.pages;have:=h.i;have:=h.o;unfold oK;rw[bMh (by omega) h0 h1];simp only[oB];split;{rename_i e1;rw[dF (by omega),cFq,bIm (by omega) (by omega) (by omega)];simp only[oB];split;{rename_i e2;rw[dF (by omega),cFq,aCi (by omega) (by omega) (by omega)];simp only[oB];split;{rename_i e3;rw[dF (by omega),cFq,aCi (by omega) (by omega) (by omega)];simp only[oB];split;{rename_i e4;rw[dF (by omega),cFq];exact⟨_,rfl,.inr ⟨by omega,by omega,⟨by omega⟩,by omega,by omega,by omega⟩⟩};{exact⟨-1,rfl,.inl (by omega)⟩}};{exact⟨-1,rfl,.inl (by omega)⟩}};{exact⟨-1,rfl,.inl (by omega)⟩}};{exact⟨-1,rfl,.inl (by omega)⟩}
theorem bDc{xs:List DGuest}{left:Int}(hl:xs.length<=9223372036854775807)(h:∀g∈xs,FitG g)(h0:0<=left)(h1:left<=1048576):∃v,qY xs left=some v/\(v<0\/(0<=v/\v<=left/\xs.length<=1048576/\∀g∈xs,SmallG g)):=by
 unfold qY;rw[aF (by omega) (by omega)];by_cases e:left-(xs.length:Int)<0;{rw[dT e];exact⟨-1,rfl,.inl (by omega)⟩}
 · rw[dF e,cFq]
   have key:∀(suf pre:List DGuest) (q:Int),xs=pre++suf->0<=q->q<=left->∃j:JO Int Int,iter (jM xs) (q,(pre.length:Int))=some (.ret j)/\(j= .out (-1)\/∃v,j= .go v/\0<=v/\v<=q/\∀g∈suf,SmallG g):=by
    intro suf;induction suf with
    |nil=>intro pre q hx hq _;rw[List.append_nil]at hx;refine⟨.go q,?_,.inr ⟨q,rfl,hq,Int.le_refl _,by simp⟩⟩;rw[dN];simp only[jM];rw[dF (by rw[hx];omega),cFq]
    |cons x suf ih=>intro pre q hx hq hq1;have e1:((pre.length:Nat):Int)<(xs.length:Int):=(by rw[hx];simp;omega);have e2:xs.getD pre.length default=x:=(by rw[hx];exact aQd);obtain⟨v,g1,g2⟩:=bIo (h x (by rw[hx];simp)) hq (by omega);have st:jM xs (q,(pre.length:Int))=cond (decide (v<0)) (some (.ret (.out (-1)))) (some (.next (v,(pre.length:Int)+1))):=(by simp only[jM,dT e1,cTq];rw[aA ⟨by omega,e1⟩,iT,e2];show Option.bind (oK x q) _=_;rw[g1,oB,aF (by omega) (by omega)]);rw[dN,st];rcases g2 with g2|⟨g2,g3,g4⟩;{rw[dT g2];exact⟨_,rfl,.inl rfl⟩};{rw[dF (by omega),cFq];obtain⟨j,k1,k2⟩:=ih (pre++[x]) v (by rw[hx];simp) g2 (by omega);simp only[List.length_append,List.length_cons,List.length_nil,Nat.zero_add,Int.natCast_add]at k1;refine⟨j,k1,k2.imp id λ⟨u,u1,u2,u3,u4⟩=>⟨u,u1,u2,by omega,λg hg=>?_⟩⟩;rcases List.mem_cons.1 hg with rfl|hg;{exact g4};{exact u4 g hg}}
   obtain⟨j,k1,k2⟩:=key xs [] (left-xs.length) rfl (by omega) (by omega);rw[show((([]:List DGuest).length:Nat):Int)=0 from rfl]at k1;rw[k1];rcases k2 with rfl|⟨v,rfl,k3,k4,k5⟩;{exact⟨-1,rfl,.inl (by omega)⟩};{exact⟨v,rfl,.inr ⟨k3,by omega,by omega,k5⟩⟩}
structure FitH (h : DHost) : Prop where
 words:h.Words.length<=9223372036854775807
 guests:h.Guests.length<=9223372036854775807
 all:∀g∈h.Guests,FitG g
theorem aVj{h:DHost}{left:Int}(hf:FitH h)(h0:0<=left)(h1:left<=1048576):∃v,pO h left=some v/\(v<0\/(0<=v/\v<=left/\SmallH h)):=by unfold pO;rw[aCi hf.words h0 h1];simp only[oB];split;{rename_i e1;rw[dF (by omega),cFq];obtain⟨v,g1,g2⟩:=bDc hf.guests hf.all (left:=left-h.Words.length) (by omega) (by omega);rw[g1,oB];rcases g2 with g2|⟨g2,g3,g4,g5⟩;{rw[dT g2];exact⟨-1,rfl,.inl (by omega)⟩};{rw[dF (by omega),cFq];exact⟨v,rfl,.inr ⟨g2,by omega,by omega,g4,g5⟩⟩}};{exact⟨-1,rfl,.inl (by omega)⟩}
theorem bTc{xs:List Int}{s:DSlot}{B:Nat}(hs:M.slotOk s=true)(ht:Tl B xs)(hB:B<=1000000000){Y:Type}:(cond (!decide (s.Frame=(-1:Int))) (grd ((0:Int)<=s.Frame/\s.Frame<((xs.length:Nat):Int)) (grd ((0:Int)<=s.Frame/\s.Frame<((xs.length:Nat):Int)) (some (JO.go (List.set xs (Int.toNat s.Frame) (w64 ((List.getD xs (Int.toNat s.Frame) default)+(1:Int)))))))) (some (JO.go xs)):Option (JO (List Int) Y))=some (.go (M.bump xs s)):=by have hr:=lA hs;have hl:=ht.len;unfold M.bump;by_cases e:s.Frame=-1;{rw[dT e];rfl};{rw[dF e];have h1:=ht.low s.Frame.toNat (by omega);have h2:=ht.top s.Frame.toNat (by omega);rw[bF,cTq,cFq,aA ⟨by omega,by omega⟩,aA ⟨by omega,by omega⟩,aF (by omega) (by omega)]}
theorem aOt{gs:List DGuest}(hl:gs.length<=1048576)(h:gs.all M.guestOk=true):fZ gs=some (M.takers (M.slots gs)):=by
 have hin:∀(k:Nat) (g:DGuest) (xs:List Int) (h1:(k:Int)<(gs.length:Int)) (h2:g∈gs) (h3:gs.getD k default=g) (h4:Tl (8*k) xs),
  iter (fX gs (xs,(k:Int))) (xs,0)=some (.ret (.go (g.Pages.foldl M.bump xs)))/\Tl (8*k+g.Pages.length) (g.Pages.foldl M.bump xs):=by
  intro k g xs h1 h2 h3 h4;obtain⟨g1,g2⟩:=iS (List.all_eq_true.1 h g h2)
  exact vN (xs:=g.Pages) (step:=fX gs (xs,(k:Int))) (λs j=>(s,j)) M.bump (λs=> .go s) (λj s=>Tl (8*k+j) s) (λj x s a1 a2 a3 a4=>by
   refine⟨?_,a4.bump (List.all_eq_true.1 g1 x a2)⟩;simp only[fX,iT,h3,dT a1,cTq];rw[aA ⟨by omega,a1⟩,a3,bTc (List.all_eq_true.1 g1 x a2) a4 (by omega),oB];simp only[JO.run,vC];rw[aF (by omega) (by omega)]) (λs _=>by
   simp only[fX,iT,h3];rw[dF (by omega),cFq]) xs h4
 have key:=(vN (xs:=gs) (step:=jT gs) (λs j=>(s,j)) (λs g=>g.Pages.foldl M.bump s) (λs=> .go s) (λk s=>Tl (8*k) s) (λk g s a1 a2 a3 a4=>by
  obtain⟨b1,b2⟩:=hin k g s a1 a2 a3 a4;refine⟨?_,b2.mono (by have:=(iS (List.all_eq_true.1 h g a2)).2;omega)⟩;simp only[jT,dT a1,cTq];rw[aA ⟨by omega,a1⟩,b1];simp only[oB,LO.val,JO.run,vK];rw[aF (by omega) (by omega)]) (λs _=>by
  simp only[jT];rw[dF (by omega),cFq]) (List.replicate 20 0) (Tl.zero.mono (by omega))).1
 unfold fZ;rw[show Int.toNat (20:Int)=20 from rfl,key];simp only[oB,LO.val,JO.run,vQ];rw[sX];rfl
theorem bUg{gs:List DGuest}(hl:gs.length<=1048576)(h:gs.all M.guestOk=true)(hwr:True):iQ gs=some (M.alone (M.slots gs)):=by
 unfold iQ;rw[aOt hl h,oB];have hs:=vL h
 have hin:∀(k:Nat) (g:DGuest) (h1:(k:Int)<(gs.length:Int)) (h2:g∈gs) (h3:gs.getD k default=g),
  iter (eG gs (M.takers (M.slots gs)) (k:Int)) 0=some (.ret (bif g.Pages.all (λs=>!s.Write||decide (M.many (M.slots gs) s.Frame<=1))then .go ()else .out (.ret (.out false)))):=by
  intro k g h1 h2 h3;obtain⟨g1,g2⟩:=iS (List.all_eq_true.1 h g h2)
  exact(uV (xs:=g.Pages) (σ:=Unit) (step:=eG gs (M.takers (M.slots gs)) (k:Int)) (λ_ j=>j) _ (λ_ _=>()) (λ_=>JO.go ()) _ (λ_ _=>True) (λj x s a1 a2 a3 _=>by
   refine⟨?_,λ_=>trivial⟩;have hx:=List.all_eq_true.1 g1 x a2;have hr:=lA hx;simp only[eG,iT,h3,dT a1,cTq,a3];rw[aA ⟨by omega,a1⟩];cases hw:x.Write with
   |false=>simp only[cFq,oB,JO.run,kW,bF,Bool.true_or,cTq];rw[aF (by omega) (by omega)]
   |true=>
    have hf:x.Frame≠-1:=λe=>by unfold M.slotOk at hx;rw[dT e,hw]at hx;simp at hx
    have hlt:=rR hs;simp only[cTq];rw[aA ⟨by omega,by omega⟩,wD hs (by omega),show((x.Frame.toNat:Nat):Int)=x.Frame by omega];by_cases e:M.many (M.slots gs) x.Frame<=1;{rw[dF (by omega),dT e];simp only[cFq,oB,JO.run,kW,bT,Bool.false_or,cTq];rw[aF (by omega) (by omega)]}
    · rw[dT (by omega),dF e];rfl) (λs _=>by
   simp only[eG,iT,h3];rw[dF (by omega),cFq]) () trivial).1
 have key:=(uV (xs:=gs) (σ:=Unit) (step:=gD gs (M.takers (M.slots gs))) (λ_ j=>j) (λg=>g.Pages.all (λs=>!s.Write||decide (M.many (M.slots gs) s.Frame<=1))) (λ_ _=>()) (λ_=>JO.go ()) (.out false) (λ_ _=>True) (λk g s a1 a2 a3 _=>by
  refine⟨?_,λ_=>trivial⟩;simp only[gD,dT a1,cTq];rw[aA ⟨by omega,a1⟩,hin k g a1 a2 a3];cases g.Pages.all (λs=>!s.Write||decide (M.many (M.slots gs) s.Frame<=1))with
  |false=>rfl
  |true=>simp only[cTq,oB,LO.val,JO.run,qO];rw[aF (by omega) (by omega)]) (λs _=>by
  simp only[gD];rw[dF (by omega),cFq]) () trivial).1
 rw[key]
 have e:M.alone (M.slots gs)=gs.all (λg=>g.Pages.all (λs=>!s.Write||decide (M.many (M.slots gs) s.Frame<=1))):=by
  simp only[M.alone]
  conv=>lhs;arg 1;unfold M.slots
  rw[List.all_flatMap]
 rw[e];cases gs.all (λg=>g.Pages.all (λs=>!s.Write||decide (M.many (M.slots gs) s.Frame<=1)))<;>rfl
theorem bRm{h:DHost}(hs:SmallH h):uC h=some (M.hostOk h):=by have:=hs.words;unfold uC M.hostOk;by_cases hl:h.Words.length=160;{rw[show decide (((h.Words.length:Nat):Int)=160)=true by simp;omega,cTq,aHz (by omega),dT hl,oB];(cases M.wordsOk h.Words with|false=>rfl|true=>rw[cTq,bIn hs.guests hs.all,oB];(cases hg:(decide (h.Guests.length=3)&&h.Guests.all M.guestOk)with|false=>rfl|true=>rw[bA]at hg;rw[cTq,bUg hs.guests hg.2 trivial];rfl))};{rw[show decide (((h.Words.length:Nat):Int)=160)=false by simp;omega,dF hl];rfl}
theorem bRj{xs:List Int}{n:Int}(h:xs.length<=9223372036854775806):fU xs n=some (decide ((xs.length:Int)<=n)&&M.wordsOk xs):=by unfold fU;rw[aAl xG h (tP xs) (λk=>rfl)];simp only[M.wordsOk];cases xs.all M.wordOk;{simp[LO.val,JO.run]};{simp only[LO.val,JO.run,oB,tE,cTq,Bool.and_true]}
namespace M
def bumpW(ws:List Bool)(s:DSlot):List Bool:=bif decide (s.Frame=-1)then ws else ws.set s.Frame.toNat (ws.getD s.Frame.toNat default||s.Write)
def bump2(p:List Int×List Bool)(s:DSlot):List Int×List Bool:=(bump p.1 s,bumpW p.2 s)
end M
theorem bQm{xs:List Bool}{i j:Nat}{v:Bool}(hi:i<xs.length):(xs.set i v).getD j default=if i=j then v else xs.getD j default:=by by_cases h:i=j;{subst h;simp[List.getD,hi]};{simp[List.getD,List.getElem?_set,h]}
theorem aWd{xs:List Bool}{s:DSlot}:(M.bumpW xs s).length=xs.length:=by unfold M.bumpW;cases decide (s.Frame=-1)<;>simp
theorem bKf{xs:List Bool}{s:DSlot}(hl:xs.length=20)(h:M.slotOk s=true){f:Nat}(hf:f<20):(M.bumpW xs s).getD f default=(xs.getD f default||(decide (s.Frame=(f:Int))&&s.Write)):=by have hr:=lA h;unfold M.bumpW;by_cases e:s.Frame=-1;{rw[dT e,cTq,dF (by omega)];simp};{rw[dF e,cFq,bQm (by omega)];by_cases e2:s.Frame=(f:Int);{rw[if_pos (by omega),dT e2,Bool.true_and];congr 2;omega};{rw[if_neg (by omega),dF e2];simp}}
theorem aVg:∀{ss:List DSlot} {p:List Int×List Bool},(ss.foldl M.bump2 p).1=ss.foldl M.bump p.1
 |[],_=>rfl
 |s::ss,p=>by rw[List.foldl_cons,aVg];rfl
theorem aVm{f:Nat}(hf:f<20):∀{ss:List DSlot} {p:List Int×List Bool},p.2.length=20->ss.all M.slotOk=true->(ss.foldl M.bump2 p).2.length=20/\(ss.foldl M.bump2 p).2.getD f default=(p.2.getD f default||ss.any λs=>decide (s.Frame=(f:Int))&&s.Write)
 |[],p,hl,_=>⟨hl,by simp⟩
 |s::ss,p,hl,h=>by rw[List.all_cons,bA]at h;obtain⟨h1,h2⟩:=aVm hf (ss:=ss) (p:=M.bump2 p s) (by simpa[M.bump2,aWd]using hl) h.2;refine⟨h1,?_⟩;rw[List.foldl_cons,h2,List.any_cons];simp only[M.bump2];rw[bKf hl h.1 hf,Bool.or_assoc]
structure Tw (B : Nat) (p : List Int × List Bool) : Prop where
 tl:Tl B p.1
 len:p.2.length=20
theorem Tw.bump{B:Nat}{p:List Int×List Bool}{s:DSlot}(h:Tw B p)(hs:M.slotOk s=true):Tw (B+1) (M.bump2 p s):=⟨h.tl.bump hs,by simp[M.bump2,aWd,h.len]⟩
theorem bGb{h:DHost}{k:Nat}{g:DGuest}{p:List Int×List Bool}{B:Nat}(hl:g.Pages.length<=8)(h3:h.Guests.getD k default=g)(ht:Tw B p)(hB:B<=1000000):
 iter (kH h (p.1,p.2,(k:Int))) (p.1,p.2,0)=some (.ret (bif g.Pages.all M.slotOk then .go ((g.Pages.foldl M.bump2 p).1,(g.Pages.foldl M.bump2 p).2)else .out (.ret (.out false))))/\(g.Pages.all M.slotOk=true->Tw (B+g.Pages.length) (g.Pages.foldl M.bump2 p)):=by
 exact uV (xs:=g.Pages) (step:=kH h (p.1,p.2,(k:Int))) (λs j=>(s.1,s.2,j)) M.slotOk M.bump2 (λs=> .go (s.1,s.2)) (.out (.ret (.out false))) (λj s=>Tw (B+j) s) (λj x s a1 a2 a3 a4=>by
  refine⟨?_,λhx=>a4.bump hx⟩;simp only[kH,iT,h3,dT a1,cTq,a3];rw[aA ⟨by omega,a1⟩,rC,oB];have hgo:M.slotOk x=true->tH h (p.1,p.2,(k:Int)) (s.1,s.2,(j:Int)) ()=some (.go ((M.bump2 s x).2,(M.bump2 s x).1)):=λhx=>by have hr:=lA hx;have hl1:=a4.tl.len;have hl2:=a4.len;simp only[tH,iT,h3,a3,M.bump2,M.bump,M.bumpW];by_cases e:x.Frame=-1;{rw[dF (p:=(0:Int)<=x.Frame) (by omega),dT e];rfl};{have q1:=a4.tl.low x.Frame.toNat (by omega);have q2:=a4.tl.top x.Frame.toNat (by omega);rw[dT (p:=(0:Int)<=x.Frame) (by omega),dF e];simp only[cTq,cFq];rw[aA ⟨by omega,by omega⟩,aA ⟨by omega,by omega⟩,aA ⟨by omega,by omega⟩,aF (by omega) (by omega)];(cases hw:s.2.getD x.Frame.toNat default with|true=>rw[cTq,aA ⟨by omega,by omega⟩,Bool.true_or]|false=>rw[cFq,aA ⟨by omega,by omega⟩,Bool.false_or])}
  by_cases e:x.Frame=-1;{have hin:M.inR (-1) 19 x.Frame=true:=(by rw[M.inR_iff];omega);rw[hin,bT,cFq,dT e,cTq];(cases hw:x.Write with|true=>have:M.slotOk x=false:=(by unfold M.slotOk;rw[dT e,hw];rfl);rw[this];rfl|false=>(cases hd:x.Dirty with|true=>have:M.slotOk x=false:=(by unfold M.slotOk;rw[dT e,hw,hd];rfl);rw[this];rfl|false=>have hx:M.slotOk x=true:=(by unfold M.slotOk;rw[dT e,hw,hd];rfl);rw[hx];simp only[cFq,oB,JO.run,hgo hx,tF,cTq];rw[aF (by omega) (by omega)]))}
  · by_cases hin:M.inR (-1) 19 x.Frame=true
    {have hr:=M.inR_iff.1 hin;have hx:M.slotOk x=true:=(by unfold M.slotOk;rw[dF e,cFq,bA,decide_eq_true_eq,decide_eq_true_eq];omega);rw[hin,bT,cFq,dF e,cFq,hx];simp only[oB,JO.run,hgo hx,tF,cTq];rw[aF (by omega) (by omega)]}
    · have hn:¬(-1<=x.Frame/\x.Frame<=19):=λc=>hin (M.inR_iff.2 c);have hx:M.slotOk x=false:=(by(cases hh:M.slotOk x with|false=>rfl|true=>have:=lA hh;omega));rw[Bool.eq_false_iff.2 hin,hx];rfl) (λs _=>by
  simp only[kH,iT,h3];rw[dF (by omega),cFq]) p ht
theorem bPn{h:DHost}(hs:SmallH h)(hl:h.Guests.length=3):
 iter (lN h) (List.replicate 20 0,List.replicate 20 false,0)=some (.ret (bif h.Guests.all M.guestOk then .go (((M.slots h.Guests).foldl M.bump2 (List.replicate 20 0,List.replicate 20 false)).1,((M.slots h.Guests).foldl M.bump2 (List.replicate 20 0,List.replicate 20 false)).2)else .out false)):=by
 have key:=(uV (xs:=h.Guests) (step:=lN h) (λ(s:List Int×List Bool) j=>(s.1,s.2,j)) M.guestOk (λs g=>g.Pages.foldl M.bump2 s) (λs=>JO.go (s.1,s.2)) (.out false) (λj s=>Tw (8*j) s) (λk g s a1 a2 a3 a4=>by
  have hg:=hs.all g a2;have:=hg.c.regs;have:=hg.pages;have:=hg.i;have:=hg.o;refine⟨?_,λhx=>?_⟩;{simp only[lN,iT,dT a1,cTq,a3];rw[aA ⟨by omega,a1⟩];(cases hlv:g.Live with|false=>have e:pT (DGuest.mk false (DCore.mk g.C.Regs g.C.Pc g.C.Root g.C.Vector g.C.Saved g.C.SavedUser g.C.Cause g.C.Bad g.C.Timer g.C.Waits g.C.User g.C.On g.C.Stopped) g.Pages g.In g.Out)=some (decide (g=M.noGuest)):=(by have:=bYp hlv;obtain⟨l,c,p,i,o⟩:=g;simp only at hlv;subst hlv;exact this);rw[bF,cTq,e,oB];have e2:M.guestOk g=decide (g=M.noGuest):=(by unfold M.guestOk;rw[hlv];rfl);rw[e2];by_cases hz:g=M.noGuest;{rw[dT hz,hz];simp only[bT,cFq,oB,JO.run,vB,cTq,M.noGuest,List.foldl_nil];rw[aF (by omega) (by omega)]};{rw[dF hz];rfl}|true=>rw[bT,cFq];have e2:M.guestOk g=(M.coreOk g.C&&(decide (g.Pages.length=8)&&g.Pages.all M.slotOk)&&M.rowOk g.In&&M.rowOk g.Out):=(by unfold M.guestOk;rw[hlv];rfl);show Option.bind (Option.bind (qA g.C) _) _=_;rw[bOp (by omega),oB,e2];(cases hc:M.coreOk g.C with|false=>rfl|true=>rw[bT,cFq,Bool.true_and];by_cases hp:g.Pages.length=8;{rw[dT hp,show decide (((g.Pages.length:Nat):Int)=8)=true by simp;omega,bT,cFq,bEv (by omega),oB,bEv (by omega)];(cases hri:M.rowOk g.In with|false=>simp[JO.run]|true=>rw[bT,cFq,oB];(cases hro:M.rowOk g.Out with|false=>simp[JO.run]|true=>rw[bT,cFq,(bGb (by omega) a3 a4 (by omega)).1];(cases hpp:g.Pages.all M.slotOk with|false=>rfl|true=>simp only[cTq,oB,LO.val,JO.run,vB,Bool.and_self];rw[aF (by omega) (by omega)])))};{rw[dF hp,show decide (((g.Pages.length:Nat):Int)=8)=false by simp;omega];rfl}))}
  · obtain⟨q1,q2⟩:=iS hx;have:=(bGb q2 a3 a4 (by omega)).2 q1;exact⟨this.tl.mono (by omega),this.len⟩) (λs _=>by
  simp only[lN];rw[dF (by omega),cFq]) (List.replicate 20 0,List.replicate 20 false) ⟨Tl.zero.mono (by omega),by simp⟩).1
 rw[sX]at key;exact key
theorem bUs{ss:List DSlot}(h:ss.all M.slotOk=true):((List.range 20).all λf=>!(decide (1<M.many ss (f:Int))&&ss.any λs=>decide (s.Frame=(f:Int))&&s.Write))=M.alone ss:=by
 apply dbe;simp only[M.alone,List.all_eq_true,List.mem_range,Bool.not_eq_true',Bool.and_eq_false_iff,decide_eq_false_iff_not,List.any_eq_false,bA,decide_eq_true_eq,Bool.or_eq_true,not_and];constructor
 · intro q s hs
   cases hw:s.Write with
   |false=>exact .inl rfl
   |true=>
    have hx:=List.all_eq_true.1 h s hs;have hr:=lA hx;have hf:s.Frame≠-1:=λe=>by unfold M.slotOk at hx;rw[dT e,hw]at hx;simp at hx
    rcases q s.Frame.toNat (by omega)with q|q;{rw[show((s.Frame.toNat:Nat):Int)=s.Frame by omega]at q;exact .inr (by omega)};{exact absurd hw (by simpa using q s hs (by omega))}
 {intro q f hf;by_cases hm:1<M.many ss (f:Int);{refine .inr λs hs e=>?_;rcases q s hs with q|q;{simp[q]};{rw[e]at q;omega}};{exact .inl hm}}
theorem aZx{h:DHost}(hs:SmallH h):pX h=some (M.hostOk h):=by
 have:=hs.words;unfold pX M.hostOk;rw[bRj (by omega),oB];by_cases hl:h.Words.length=160
 · rw[dT (p:=(h.Words.length:Int)<=160) (by omega),dT hl]
   cases M.wordsOk h.Words with
   |false=>rfl
   |true=>
    rw[Bool.true_and,bT,cFq,dT (p:=((h.Words.length:Nat):Int)=160) (by omega),bT,cFq];by_cases hg:h.Guests.length=3
    · rw[dT hg,dT (p:=((h.Guests.length:Nat):Int)=3) (by omega),bT,cFq]
      rw[show Int.toNat (20:Int)=20 from rfl,bPn hs hg];cases ha:h.Guests.all M.guestOk with
      |false=>rfl
      |true=>
       have hsl:=vL ha;simp only[cTq,oB,LO.val,JO.run,aBl,Bool.true_and];rw[aVg]
       have key:=aVy (n:=20) (step:=pA ((M.slots h.Guests).foldl M.bump (List.replicate 20 0),((M.slots h.Guests).foldl M.bump2 (List.replicate 20 0,List.replicate 20 false)).2)) (λk=>k) (λf=>!(decide (1<M.many (M.slots h.Guests) (f:Int))&&(M.slots h.Guests).any λs=>decide (s.Frame=(f:Int))&&s.Write)) (JO.go ()) (.out false) (λi hi=>by
        have q1:=wD hsl hi;have q2:=rR hsl;obtain⟨q3,q4⟩:=aVm hi (p:=(List.replicate 20 0,List.replicate 20 false)) (by simp) hsl;unfold M.takers at q1 q2;simp only[pA,iT];have e0:decide ((1:Int)<(List.foldl M.bump (List.replicate 20 0) (M.slots h.Guests)).getD i default)=decide (1<M.many (M.slots h.Guests) (i:Int)):=(by rw[decide_eq_decide,q1];omega);rw[dT (p:=(i:Int)<20) (by omega),cTq,aA ⟨by omega,by omega⟩,e0,q4];rw[show(List.replicate 20 false).getD i default=false by rw[aW (by rw[List.length_replicate];omega),List.getElem_replicate],Bool.false_or];by_cases e:1<M.many (M.slots h.Guests) (i:Int)
        · rw[dT e,cTq,aA ⟨by omega,by omega⟩]
          cases(M.slots h.Guests).any λs=>decide (s.Frame=(i:Int))&&s.Write with
          |true=>rfl
          |false=>simp only[cFq,oB,JO.run,uM,Bool.and_false,bF,cTq];rw[aF (by omega) (by omega)]
        · rw[dF e];simp only[cFq,oB,JO.run,uM,Bool.false_and,bF,cTq];rw[aF (by omega) (by omega)]) (by
        simp only[pA];rfl)
       rw[key,bUs hsl];cases M.alone (M.slots h.Guests)<;>rfl
    {rw[dF hg,dF (p:=((h.Guests.length:Nat):Int)=3) (by omega)];rfl}
 {rw[dF hl,dF (p:=((h.Words.length:Nat):Int)=160) (by omega)];cases(decide ((h.Words.length:Int)<=160)&&M.wordsOk h.Words)<;>rfl}
structure HOk (h : DHost) : Prop where
 len:h.Words.length=160
 words:M.wordsOk h.Words=true
 three:h.Guests.length=3
 all:h.Guests.all M.guestOk=true
 alone:M.alone (M.slots h.Guests)=true
theorem fC{h:DHost}:M.hostOk h=true↔HOk h:=by unfold M.hostOk;simp only[bA,decide_eq_true_eq];exact⟨λ⟨⟨⟨a,b⟩,c,d⟩,e⟩=>⟨a,b,c,d,e⟩,λh=>⟨⟨⟨h.len,h.words⟩,h.three,h.all⟩,h.alone⟩⟩
namespace M
noncomputable def there (h:DHost)(g:Int):Bool:=hostOk h&&(inR 0 2 g&&(h.Guests.getD g.toNat default).Live)
end M
theorem hO{h:DHost}{g:Int}:M.there h g=true↔HOk h/\0<=g/\g<=2/\(h.Guests.getD g.toNat default).Live=true:=by unfold M.there;rw[bA,bA,fC,M.inR_iff];exact⟨λ⟨a,⟨b,c⟩,d⟩=>⟨a,b,c,d⟩,λ⟨a,b,c,d⟩=>⟨a,⟨b,c⟩,d⟩⟩
theorem bMk{gs:List DGuest}{g:Int}(h3:gs.length=3):sC gs g=some (M.inR 0 2 g&&(gs.getD g.toNat default).Live):=by unfold sC M.inR;by_cases h0:0<=g;{by_cases h1:g<3;{rw[dT h0,dT h1,dT (p:=g<=2) (by omega),cTq,cTq,aA ⟨h0,by omega⟩];rfl};{rw[dT h0,dF h1,dF (p:=g<=2) (by omega)];rfl}};{rw[dF h0];rfl}
theorem sR{h:DHost}{g:Int}(hs:SmallH h):dL h g=some (M.there h g):=by unfold dL M.there;rw[bRm hs,oB];(cases hh:M.hostOk h with|false=>rfl|true=>have hk:=fC.1 hh;rw[cTq,bMk hk.three];rfl)
theorem xX{h:DHost}{g:Int}(hs:SmallH h):dW h g=some (M.there h g):=by unfold dW M.there;rw[aZx hs,oB];(cases hh:M.hostOk h with|false=>rfl|true=>have hk:=fC.1 hh;have:=hk.three;rw[cTq,Bool.true_and,rC,oB];(cases hi:M.inR 0 2 g with|false=>rfl|true=>have:=M.inR_iff.1 hi;rw[cTq,Bool.true_and,aA ⟨by omega,by omega⟩]))
theorem aPb{T:Type}{xs ys:List T}(h:xs.length=ys.length):over xs 0 xs.length ys=ys:=by simp only[over,h,Nat.min_self,List.take_length,Nat.zero_add,List.take_zero,List.nil_append];rw[List.drop_eq_nil_of_le (by omega),List.append_nil]
theorem lD{xs:List Int}(h:xs.length<=1048576):dA xs=some xs:=by unfold dA;rw[aA ⟨by omega,by omega,by omega⟩,aPb (by simp)]
theorem bNc{c:DCore}(h:SmallC c):mM c=some c:=by have:=h.regs;unfold mM;rw[aA ⟨by simp;omega,by simp;omega⟩];rfl
theorem uS{xs ys:List Int}{o k a:Nat}(hk:ys.length=k)(ho:o+k<=xs.length):(over xs o k ys).getD a default=if a<o then xs.getD a default else if a<o+k then ys.getD (a-o) default else xs.getD a default:=by simp only[over,hk,Nat.min_self,List.getD_eq_getElem?_getD];rw[List.take_of_length_le (l:=ys) (i:=k) (by omega)];by_cases h1:a<o;{rw[if_pos h1,List.getElem?_append_left (by simp;omega),List.getElem?_take_of_lt h1]};{rw[if_neg h1,List.getElem?_append_right (by simp;omega)];have e:(xs.take o).length=o:=(by simp;omega);rw[e];by_cases h2:a<o+k;{rw[if_pos h2,List.getElem?_append_left (by omega)]};{rw[if_neg h2,List.getElem?_append_right (by omega),List.getElem?_drop];congr 2;omega}}
theorem nA{xs ys:List Int}{o k:Nat}(ho:o+k<=xs.length):(over xs o k ys).length=xs.length:=aIp ho
theorem gP{xs ys:List Int}{n:Nat}(h1:xs.length=n)(h2:ys.length=n)(h:∀a,a<n->xs.getD a default=ys.getD a default):xs=ys:=by apply List.ext_getElem (by omega);intro i q1 q2;have:=h i (by omega);rwa[aW q1,aW q2]at this
theorem pF{xs:List Int}{o a:Nat}(ha:a<8):((xs.drop o).take 8).getD a default=xs.getD (o+a) default:=by simp only[List.getD_eq_getElem?_getD];rw[List.getElem?_take_of_lt ha,List.getElem?_drop]
theorem nJ{xs:List Int}{o:Nat}(h:o+8<=xs.length):((xs.drop o).take 8).length=8:=by simp;omega
namespace M
def word(ws:List Int)(ps:List DSlot)(a:Nat):Int:=if(ps.getD (a/8) default).Frame<0 then 0 else ws.getD ((ps.getD (a/8) default).Frame.toNat*8+a%8) default
def mem(ws:List Int)(ps:List DSlot):List Int:=(List.range 64).map (word ws ps)
def page(ws:List Int)(f:Nat):List Int:=(ws.drop (f*8)).take 8
noncomputable def hostView (h:DHost)(g:Int):DBare×Bool:=bif there h g then(⟨(h.Guests.getD g.toNat default).C,mem h.Words (h.Guests.getD g.toNat default).Pages,(h.Guests.getD g.toNat default).In,(h.Guests.getD g.toNat default).Out⟩,true)else(⟨noCore,[],[],[]⟩,false)
end M
theorem dE{ws:List Int}{ps:List DSlot}:(M.mem ws ps).length=64:=by simp[M.mem]
theorem eU{ws:List Int}{ps:List DSlot}{a:Nat}(ha:a<64):(M.mem ws ps).getD a default=M.word ws ps a:=by rw[aW (by rw[dE];exact ha)];simp[M.mem]
theorem bSk{xs:List Int}{f:Int}(h0:0<=f)(h1:f*8+8<=xs.length)(h2:f<=1000000):mL xs f=some (M.page xs f.toNat):=by unfold mL M.page;rw[aF (z:=f*8) (by omega) (by omega),aF (z:=f+1) (by omega) (by omega),aF (z:=(f+1)*8) (by omega) (by omega),aA ⟨by omega,by omega,by omega⟩];rw[show Int.toNat ((f+1)*8)-Int.toNat (f*8)=8 by omega,show Int.toNat (f*8)=f.toNat*8 by omega]
theorem aYz{xs:List Int}{f:Int}(h0:0<=f)(h1:f*8+8<=xs.length)(h2:f<=1000000):gQ xs f=some (xs,(f.toNat*8,8)):=by unfold gQ;rw[aF (z:=f*8) (by omega) (by omega),aF (z:=f+1) (by omega) (by omega),aF (z:=(f+1)*8) (by omega) (by omega),aA ⟨by omega,by omega,by omega⟩];rw[show Int.toNat ((f+1)*8)-Int.toNat (f*8)=8 by omega,show Int.toNat (f*8)=f.toNat*8 by omega]
theorem aVq{ps:List DSlot}(hp:ps.all M.slotOk=true){i:Nat}(hi:i<ps.length):-1<=(ps.getD i default).Frame/\(ps.getD i default).Frame<20:=lA (List.all_eq_true.1 hp _ (cM hi))
theorem aWq{b:DBare}(hs:SmallB b):gS b=some b:=by unfold gS;rw[lD hs.c.regs,lD hs.mem,lD hs.i,lD hs.o];rfl
structure Live (h : DHost) (g : Int) (x : DGuest) : Prop where
 small:SmallG x
 ok:HOk h
 lo:0<=g
 hi:g<=2
 at_:h.Guests.getD g.toNat default=x
 live:x.Live=true
 core:M.coreOk x.C=true
 pages:x.Pages.length=8
 slots:x.Pages.all M.slotOk=true
 inn:M.rowOk x.In=true
 out:M.rowOk x.Out=true
theorem bM{h:DHost}{g:Int}(hs:SmallH h)(ht:M.there h g=true):Live h g (h.Guests.getD g.toNat default):=by obtain⟨hk,h0,h1,h2⟩:=hO.1 ht;have:=hk.three;have hm:=cM (xs:=h.Guests) (k:=g.toNat) (by omega);have ho:=List.all_eq_true.1 hk.all _ hm;unfold M.guestOk at ho;rw[h2,cTq]at ho;simp only[bA,decide_eq_true_eq]at ho;exact⟨hs.all _ hm,hk,h0,h1,rfl,h2,ho.1.1.1,ho.1.1.2.1,ho.1.1.2.2,ho.1.2,ho.2⟩
theorem td8(i:Nat):Int.tdiv (i:Int) 8=((i/8:Nat):Int):=rfl
theorem tm8(i:Nat):Int.tmod (i:Int) 8=((i%8:Nat):Int):=rfl
theorem aZf{α:Type}{f:Nat->α}:∀(xs:List Nat) (s:List α),xs.foldl (λs i=>s++[f i]) s=s++xs.map f
 |[],s=>by simp
 |x::xs,s=>by rw[List.foldl_cons,aZf xs];simp
namespace M
def freeStep(ss:List DSlot)(s:List Int)(i:Nat):List Int:=bif decide (many ss (i:Int)=0)then s++[(i:Int)]else s
def free(ss:List DSlot):List Int:=(List.range 20).foldl (freeStep ss) []
noncomputable def hostFree (h:DHost):List Int:=bif hostOk h then free (slots h.Guests)else[]
end M
theorem aOo{ss:List DSlot}:M.free ss=((List.range 20).filter λ(i:Nat)=>decide (M.many ss (i:Int)=0)).map λ(i:Nat)=>(i:Int):=by
 have e:∀(xs:List Nat) (s:List Int),xs.foldl (M.freeStep ss) s=s++(xs.filter λ(i:Nat)=>decide (M.many ss (i:Int)=0)).map λ(i:Nat)=>(i:Int):=by
  intro xs;induction xs with
  |nil=>intro s;simp
  |cons x xs ih=>intro s;rw[List.foldl_cons,ih,List.filter_cons];unfold M.freeStep;cases decide (M.many ss (x:Int)=0)<;>simp
 unfold M.free;rw[e];simp
theorem aIr{ss:List DSlot}{s:List Int}{i n:Nat}(h:s.length<=n):(M.freeStep ss s i).length<=n+1:=by unfold M.freeStep;cases decide (M.many ss (i:Int)=0)<;>simp<;>omega
theorem bUv{h:DHost}(h3:h.Guests.length=3)(hall:h.Guests.all M.guestOk=true):mN h=some (M.takers (M.slots h.Guests)):=by
 have hin:∀(k:Nat) (g:DGuest) (xs:List Int) (h1:(k:Int)<(h.Guests.length:Int)) (h2:g∈h.Guests) (h3:h.Guests.getD k default=g) (h4:Tl (8*k) xs),
  iter (lP h (xs,(k:Int))) (xs,0)=some (.ret (.go (g.Pages.foldl M.bump xs)))/\Tl (8*k+g.Pages.length) (g.Pages.foldl M.bump xs):=by
  intro k g xs h1 h2 h3 h4;obtain⟨g1,g2⟩:=iS (List.all_eq_true.1 hall g h2)
  exact vN (xs:=g.Pages) (step:=lP h (xs,(k:Int))) (λs j=>(s,j)) M.bump (λs=> .go s) (λj s=>Tl (8*k+j) s) (λj x s a1 a2 a3 a4=>by
   have hx:=List.all_eq_true.1 g1 x a2;have hr:=lA hx;have hl:=a4.len;refine⟨?_,a4.bump hx⟩;simp only[lP,iT,h3,dT a1,cTq];rw[aA ⟨by omega,h1⟩,aA ⟨by omega,h1⟩,aA ⟨by omega,a1⟩,a3];unfold M.bump;by_cases e:x.Frame=-1;{rw[dF (p:=(0:Int)<=x.Frame) (by omega),dT e];simp only[cTq,cFq,oB,JO.run,uN];rw[aF (by omega) (by omega)]}
   · have q1:=a4.low x.Frame.toNat (by omega);have q2:=a4.top x.Frame.toNat (by omega);rw[dT (p:=(0:Int)<=x.Frame) (by omega),dF e,cTq,aA ⟨by omega,by omega⟩,aA ⟨by omega,by omega⟩,aF (by omega) (by omega)];simp only[cTq,cFq,oB,JO.run,uN];rw[aF (by omega) (by omega)]) (λs _=>by
   simp only[lP,iT,h3];rw[aA ⟨by omega,h1⟩,dF (by omega),cFq]) xs h4
 have key:=(vN (xs:=h.Guests) (step:=pH h) (λs j=>(s,j)) (λs g=>g.Pages.foldl M.bump s) (λs=> .go s) (λk s=>Tl (8*k) s) (λk g s a1 a2 a3 a4=>by
  obtain⟨b1,b2⟩:=hin k g s a1 a2 a3 a4;refine⟨?_,b2.mono (by have:=(iS (List.all_eq_true.1 hall g a2)).2;omega)⟩;simp only[pH,dT a1,cTq];rw[b1];simp only[oB,LO.val,JO.run,aBf];rw[aF (by omega) (by omega)]) (λs _=>by
  simp only[pH];rw[dF (by omega),cFq]) (List.replicate 20 0) (Tl.zero.mono (by omega))).1
 unfold mN;rw[show Int.toNat (20:Int)=20 from rfl,key];simp only[oB,LO.val,JO.run,aBj];rw[sX];rfl
theorem bNw{h:DHost}(hs:SmallH h)(hk:HOk h):mN h=some (M.takers (M.slots h.Guests)):=bUv hk.three hk.all
theorem aVc{ss:List DSlot}(hss:ss.all M.slotOk=true){i:Nat}(hi:i<20){s:List Int}(hl:s.length<=i){Y:Type}:
 (grd ((0:Int)<=(i:Int)/\(i:Int)<((List.length (M.takers ss):Nat):Int)) (cond (decide ((List.getD (M.takers ss) i default)=(0:Int))) (grd ((List.length s+List.length ([(i:Int)]:List Int))*8<=2^47/\List.length s+List.length ([(i:Int)]:List Int)<=2^47) (some (JO.go (s++([(i:Int)]:List Int))))) (some (JO.go s))):Option (JO (List Int) Y))=some (.go (M.freeStep ss s i)):=by
 have hl2:=rR hss;have e0:decide ((M.takers ss).getD i default=0)=decide (M.many ss (i:Int)=0):=(by rw[decide_eq_decide,wD hss hi];omega);rw[aA ⟨by omega,by omega⟩,e0];unfold M.freeStep;(cases decide (M.many ss (i:Int)=0)with|true=>rw[cTq,cTq,aA ⟨by simp;omega,by simp;omega⟩]|false=>rfl)
theorem bBs{gs:List DGuest}(hl:gs.length<=1048576)(h:gs.all M.guestOk=true):nQ gs=some (M.free (M.slots gs)):=by
 have hss:=vL h;have hl2:=rR hss;unfold nQ;rw[aOt hl h,oB]
 have key:=(aEz (n:=20) (step:=kY (M.takers (M.slots gs))) (λs j=>(s,j)) (M.freeStep (M.slots gs)) (λs=>JO.go s) (λi s=>s.length<=i) (λi s hi hs=>by
  refine⟨?_,aIr hs⟩;simp only[kY,iT];rw[dT (p:=(i:Int)<_) (by omega),cTq,aVc hss hi hs,oB];simp only[JO.run,wC];rw[aF (by omega) (by omega)]) (λs _=>by
  simp only[kY];rw[dF (by omega),cFq]) [] (by simp)).1
 rw[key];rfl
theorem aQg{h:DHost}(hs:SmallH h):mV h=some (M.hostFree h):=by
 unfold mV M.hostFree;rw[aZx hs,oB];cases hh:M.hostOk h with
 |false=>rfl
 |true=>
  have hk:=fC.1 hh;have hss:=vL hk.all;rw[bT,cFq,bNw hs hk,oB]
  have key:=(aEz (n:=20) (step:=nH (M.takers (M.slots h.Guests))) (λs j=>(s,j)) (M.freeStep (M.slots h.Guests)) (λs=>JO.go s) (λi s=>s.length<=i) (λi s hi hs=>by
   refine⟨?_,aIr hs⟩;simp only[nH,iT];rw[dT (p:=(i:Int)<20) (by omega),cTq,aVc hss hi hs,oB];simp only[JO.run,yM];rw[aF (by omega) (by omega)]) (λs _=>by
   simp only[nH];rfl) [] (by simp)).1
  rw[key];rfl
section
variable {T : Type} [Inhabited T] {f : T → T} {k : Nat} {xs : List T}
def up{T:Type}(f:T->T)(k:Nat)(xs:List T):List T:=xs.mapIdx λi x=>if i<k then f x else x
theorem aLd{i:Nat}:(up f k xs)[i]? =(xs[i]?).map λx=>if i<k then f x else x:=by simp[up]
theorem aSk:(up f k xs).length=xs.length:=by simp[up]
theorem bEz:up f 0 xs=xs:=by apply List.ext_getElem?;intro i;rw[aLd];cases xs[i]? <;>simp
theorem bKx(h:xs.length<=k):up f k xs=xs.map f:=by apply List.ext_getElem?;intro i;rw[aLd,List.getElem?_map];by_cases e:i<xs.length;{rw[List.getElem?_eq_getElem e];simp only[Option.map_some,if_pos (show i<k by omega)]};{rw[List.getElem?_eq_none (by omega)];rfl}
theorem aXn(h:k<xs.length):(up f k xs).set k (f (xs.getD k default))=up f (k+1) xs:=by apply List.ext_getElem?;intro i;rw[List.getElem?_set,aLd,aLd];by_cases e:k=i;{subst e;rw[if_pos rfl,if_pos (by rw[aSk];exact h),List.getElem?_eq_getElem h,aW h];simp};{rw[if_neg e];(cases xs[i]? with|none=>rfl|some x=>simp only[Option.map_some];by_cases q:i<k;{rw[if_pos q,if_pos (by omega)]};{rw[if_neg q,if_neg (by omega)]})}
theorem bUx{i:Nat}(h:i<xs.length):(up f k xs).getD i default=if i<k then f (xs.getD i default)else xs.getD i default:=by rw[List.getD_eq_getElem?_getD,aLd,List.getElem?_eq_getElem h,aW h];rfl
theorem bSn(h:k<xs.length):(up f k xs).getD k default=xs.getD k default:=by rw[bUx h,if_neg (by omega)]
theorem bSz(h:k<xs.length)(he:f (xs.getD k default)=xs.getD k default):up f k xs=up f (k+1) xs:=by rw[<-aXn h,he];apply List.ext_getElem?;intro i;rw[List.getElem?_set];by_cases e:k=i;{subst e;rw[if_pos rfl,if_pos (by rw[aSk];exact h),aLd,List.getElem?_eq_getElem h,aW h];simp};{rw[if_neg e]}
end
namespace M
def mapG(f:DSlot->DSlot)(g:DGuest):DGuest:=⟨g.Live,g.C,g.Pages.map f,g.In,g.Out⟩
def upG(f:DSlot->DSlot)(j:Nat)(g:DGuest):DGuest:=⟨g.Live,g.C,up f j g.Pages,g.In,g.Out⟩
end M
section
variable {f : DSlot → DSlot} {k j : Nat} {gs : List DGuest}
theorem bPh{g:DGuest}:M.upG f 0 g=g:=by unfold M.upG;rw[bEz]
theorem bTx{g:DGuest}(h:g.Pages.length<=j):M.upG f j g=M.mapG f g:=by unfold M.upG M.mapG;rw[bKx h]
end
theorem aYc{T U:Type}[Inhabited T][Inhabited U]{f:T->U}{xs:List T}{j:Nat}(h:j<xs.length):(xs.map f).getD j default=f (xs.getD j default):=by rw[aW (by rw[List.length_map];exact h),aW h,List.getElem_map]
theorem aEp{xs:List DSlot}(h:xs.length<=1048576):jE xs=some xs:=by unfold jE;rw[aA ⟨by omega,by omega,by omega⟩,aPb (by simp)]
theorem bEa{g:DGuest}(h:M.guestOk g=true)(hl:g.Live=false):g=M.noGuest:=by unfold M.guestOk at h;rw[hl,cFq,decide_eq_true_eq]at h;exact h
theorem aTl{g:DGuest}(hs:SmallG g)(h:M.guestOk g=true):iY g=some g:=by unfold iY;(cases hl:g.Live with|false=>have:=bEa h hl;subst this;rfl|true=>rw[bT,cFq,lD hs.c.regs,aEp hs.pages,lD hs.i,lD hs.o];simp only[oB];rw[<-hl])
theorem bTv{g:DGuest}(hs:SmallG g)(h:M.guestOk g=true):oJ g=some g:=by have:=hs.pages;have:=hs.i;have:=hs.o;unfold oJ;(cases hl:g.Live with|false=>have:=bEa h hl;subst this;rfl|true=>rw[bT,cFq,bNc hs.c,oB,aA ⟨by omega,by omega⟩,aA ⟨by omega,by omega⟩,aA ⟨by omega,by omega⟩,<-hl])
theorem aQz{gs:List DGuest}(hl:gs.length<=1048576)(hs:∀g∈gs,SmallG g)(h:gs.all M.guestOk=true):mF gs=some gs:=by
 unfold mF;rw[aA ⟨by omega,by omega,by omega⟩]
 have key:=aBz (xs:=gs) (ys:=List.replicate (Int.toNat (gs.length:Int)) M.noGuest) (step:=fG gs) (by simp) (λk zs hk hz=>by
  have h1:(k:Int)<(gs.length:Int):=(by omega);simp only[fG,dT h1,cTq];rw[aA ⟨by omega,h1⟩,iT];show Option.bind (iY (gs.getD k default)) _=_;rw[aTl (hs _ (cM hk)) (List.all_eq_true.1 h _ (cM hk)),oB,aA ⟨by omega,by omega⟩,aF (by omega) (by omega)]) (λzs hz=>by
  simp only[fG];rw[dF (by omega),cFq])
 show Option.bind (Option.bind (iter (fG gs) (List.replicate (Int.toNat (gs.length:Int)) M.noGuest,0)) LO.val) _=_;rw[key];rfl
theorem aDo{h:DHost}(hs:SmallH h)(hg:h.Guests.all M.guestOk=true):eM h=some h:=by
 have:=hs.words;have:=hs.guests;unfold eM;rw[aA ⟨by simp;omega,by simp;omega⟩]
 have key:=(vN (xs:=h.Guests) (step:=pM h) (λs j=>(s,j)) (λs g=>s++[g]) (λs=>JO.go s) (λj s=>s.length=j) (λk g s a1 a2 a3 a4=>by
  refine⟨?_,by simp;omega⟩;simp only[pM,dT a1,cTq,iT,a3];rw[aA ⟨by omega,a1⟩];show Option.bind (oJ g) _=_;rw[bTv (hs.all g a2) (List.all_eq_true.1 hg g a2),oB,aA ⟨by omega,by omega⟩,aF (by omega) (by omega)]) (λs _=>by
  simp only[pM];rw[dF (by omega),cFq]) [] rfl).1
 rw[key]
 have e:∀(xs ys:List DGuest),xs.foldl (λs g=>s++[g]) ys=ys++xs:=by
  intro xs;induction xs with
  |nil=>intro ys;simp
  |cons x xs ih=>intro ys;rw[List.foldl_cons,ih];simp
 rw[e];rfl
namespace M
end M
namespace M
def zeros(xs:List Int):Bool:=(List.range 8).all λk=>decide (xs.getD k default=0)
def used(mem:List Int):Nat->Nat
 |0=>0
 |p+1=>used mem p+(bif zeros (page mem p)then 0 else 1)
def bUa(mem free:List Int)(p:Nat):DSlot:=bif zeros (page mem p)then⟨-1,false,false⟩else⟨free.getD (used mem p) default,true,false⟩
def aXv(mem free:List Int)(n:Nat):List DSlot:=(List.range n).map (bUa mem free)
def aFb(mem free:List Int)(ws:List Int):Nat->List Int
 |0=>ws
 |p+1=>bif zeros (page mem p)then aFb mem free ws p else over (aFb mem free ws p) ((free.getD (used mem p) default).toNat*8) 8 (page mem p)
noncomputable def bIj (gs:List DGuest):Int:=bif (gs.getD 0 default).Live then(bif (gs.getD 1 default).Live then(bif (gs.getD 2 default).Live then-1 else 2)else 1)else 0
noncomputable def aDr (h:DHost)(b:DBare)(a:Nat):DHost:=⟨aFb b.Mem (free (slots h.Guests)) h.Words 8,h.Guests.set a ⟨true,b.C,aXv b.Mem (free (slots h.Guests)) 8,b.In,b.Out⟩⟩
noncomputable def cDw (h:DHost)(b:DBare):DHost:=⟨aFb b.Mem (free (slots h.Guests)) h.Words 8,h.Guests.set (bIj h.Guests).toNat ⟨true,b.C,aXv b.Mem (free (slots h.Guests)) 8,b.In,b.Out⟩⟩
end M
theorem bJp{xs:List Int}(h:xs.length=8):mT xs=some (M.zeros xs):=by
 unfold mT M.zeros
 have key:=hM (n:=8) (step:=jG xs) (λi=>(i:Int)) (λk=>decide (xs.getD k default=0)) (JO.go ()) (.out false) (λi hi _=>by
  simp only[jG,iT];rw[dT (p:=(i:Int)<_) (by omega),cTq,aA ⟨by omega,by omega⟩,aF (by omega) (by omega)];cases decide (xs.getD i default=0)<;>rfl) (λ_=>by
  simp only[jG];rw[dF (by omega),cFq])
 show Option.bind (Option.bind (iter (jG xs) ((0:Nat):Int)) LO.val) _=_;rw[key];cases(List.range 8).all λk=>decide (xs.getD k default=0)<;>rfl
namespace M
def keep(s:DSlot):DSlot:=⟨s.Frame,false,s.Dirty⟩
def fresh(s:DSlot):DSlot:=⟨s.Frame,false,false⟩
def nowhere:DSlot:=⟨-1,false,false⟩
def give(ps:List DSlot)(qs:List Int):List DSlot:=qs.foldl (λps q=>ps.set q.toNat nowhere) ps
def giveG(x:DGuest)(qs:List Int):DGuest:=⟨x.Live,x.C,give x.Pages qs,x.In,x.Out⟩
noncomputable def hostGive (h:DHost)(g:Int)(qs:List Int):DHost×Bool:=bif there h g&&qs.all (inR 0 7)then(⟨h.Words,h.Guests.set g.toNat (giveG (h.Guests.getD g.toNat default) qs)⟩,true)else(⟨[],[]⟩,false)
end M
theorem aGa{ss tt:List DSlot}{f:Int}:M.many (ss++tt) f=M.many ss f+M.many tt f:=by simp only[M.many,List.countP_append]
theorem zL{x:DGuest}{gs:List DGuest}:M.slots (x::gs)=x.Pages++M.slots gs:=by simp only[M.slots,List.flatMap_cons]
theorem aJd{y:DGuest}{f:Int}:∀{gs:List DGuest} {i:Nat},i<gs.length->M.many (M.slots (gs.set i y)) f+M.many (gs.getD i default).Pages f=M.many (M.slots gs) f+M.many y.Pages f
 |[],i,h=>by simp at h
 |g::gs,0,_=>by rw[List.set_cons_zero,zL,zL,aGa,aGa];show M.many y.Pages f+M.many (M.slots gs) f+M.many g.Pages f=_;omega
 |g::gs,i+1,h=>by have ih:=aJd (y:=y) (f:=f) (gs:=gs) (i:=i) (by simpa using h);rw[List.set_cons_succ,zL,zL,aGa,aGa];show M.many g.Pages f+M.many (M.slots (gs.set i y)) f+M.many (gs.getD i default).Pages f=_;omega
theorem aDx{gs:List DGuest}{i:Nat}{y:DGuest}(h:i<gs.length):(gs.set i y).getD i default=y:=by rw[aW (by rw[lS];exact h),List.getElem_set_self]
theorem aLk{gs:List DGuest}{i j:Nat}{y:DGuest}(hj:j<gs.length)(h:i≠j):(gs.set i y).getD j default=gs.getD j default:=by rw[aW (by rw[lS];exact hj),List.getElem_set_ne h,<-aW]
theorem aBy{gs:List DGuest}:M.alone (M.slots gs)=true↔∀i,i<gs.length->∀s∈(gs.getD i default).Pages,s.Write=true->M.many (M.slots gs) s.Frame<=1:=by unfold M.alone;rw[List.all_eq_true];constructor;{intro h i hi s hs hw;have:=h s (List.mem_flatMap.2 ⟨_,cM hi,hs⟩);rw[hw]at this;exact of_decide_eq_true this};{intro h s hs;obtain⟨x,hx,hs⟩:=List.mem_flatMap.1 hs;obtain⟨i,hi,e⟩:=List.getElem_of_mem hx;(cases hw:s.Write with|false=>rfl|true=>exact dT (h i hi s (by rw[aW hi,e];exact hs) hw))}
theorem aRz{x:DGuest}(hl:x.Live=true):M.guestOk x=true↔M.coreOk x.C=true/\x.Pages.length=8/\x.Pages.all M.slotOk=true/\M.rowOk x.In=true/\M.rowOk x.Out=true:=by
 unfold M.guestOk;rw[hl,cTq];simp only[bA,decide_eq_true_eq];constructor
 · rintro⟨⟨⟨a,b,c⟩,d⟩,e⟩;exact⟨a,b,c,d,e⟩
 · rintro⟨a,b,c,d,e⟩;exact⟨⟨⟨a,b,c⟩,d⟩,e⟩
theorem aXr{gs:List DGuest}(h:gs.all M.guestOk=true){i:Nat}(hi:i<gs.length):M.guestOk (gs.getD i default)=true:=List.all_eq_true.1 h _ (cM hi)
theorem bGn{gs:List DGuest}(h:gs.all M.guestOk=true){i:Nat}{y:DGuest}(hy:M.guestOk y=true):(gs.set i y).all M.guestOk=true:=by rw[List.all_eq_true];intro z hz;rcases List.mem_or_eq_of_mem_set hz with hz|rfl;{exact List.all_eq_true.1 h z hz};{exact hy}
theorem bZv{f:DSlot->DSlot}(hf:∀{s},M.slotOk s=true->M.slotOk (f s)=true){ps:List DSlot}(h:ps.all M.slotOk=true):(ps.map f).all M.slotOk=true:=by rw[List.all_eq_true]at*;intro s hs;obtain⟨t,ht,rfl⟩:=List.mem_map.1 hs;exact hf (h t ht)
theorem aAw{h:DHost}{g:Int}{x:DGuest}(l:Live h g x):M.hostView h g=(⟨x.C,M.mem h.Words x.Pages,x.In,x.Out⟩,true):=by unfold M.hostView;rw[hO.2 ⟨l.ok,l.lo,l.hi,by rw[l.at_];exact l.live⟩,cTq,l.at_]
section
variable {h : DHost} {g : Int} {x : DGuest}
structure Cln (h : DHost) (g : Int) (x : DGuest) (a : Nat) : Prop where
 live:Live h g x
 lt:a<3
 ne:g.toNat≠a
 none:h.Guests.getD a default=M.noGuest
variable {a : Nat}
theorem mem_map{ws:List Int}{f:DSlot->DSlot}(hf:∀s,(f s).Frame=s.Frame){ps:List DSlot}(hl:ps.length=8):M.mem ws (ps.map f)=M.mem ws ps:=by refine gP dE dE λb hb=>?_;rw[eU hb,eU hb];unfold M.word;rw[aYc (by omega),hf]
end
section
variable {h : DHost} {g : Int} {x : DGuest}
theorem give_len:∀{qs:List Int} {ps:List DSlot},(M.give ps qs).length=ps.length
 |[],_=>rfl
 |q::qs,ps=>by show(M.give (ps.set q.toNat M.nowhere) qs).length=_;rw[give_len,lS]
theorem aXy:∀{qs:List Int} {ps:List DSlot} {j:Nat},j<ps.length->qs.all (M.inR 0 7)=true->(M.give ps qs).getD j default=if(j:Int)∈qs then M.nowhere else ps.getD j default
 |[],ps,j,_,_=>by rw[if_neg (by simp)];rfl
 |q::qs,ps,j,hj,hq=>by rw[List.all_cons,bA]at hq;have hr:=M.inR_iff.1 hq.1;show(M.give (ps.set q.toNat M.nowhere) qs).getD j default=_;rw[aXy (by rw[lS];exact hj) hq.2];by_cases e:(j:Int)∈qs;{rw[if_pos e,if_pos (List.mem_cons_of_mem _ e)]};{rw[if_neg e];by_cases e2:(j:Int)=q;{rw[if_pos (by rw[e2];exact List.mem_cons_self ..),show j=q.toNat by omega,aW (by rw[lS];omega),List.getElem_set_self]};{rw[if_neg (by rw[List.mem_cons];exact λc=>c.elim e2 e),aW (by rw[lS];exact hj),List.getElem_set_ne (by omega),<-aW]}}
theorem aVk{f:Int}(hf:f≠-1):∀{qs:List Int} {ps:List DSlot},M.many (M.give ps qs) f<=M.many ps f
 |[],_=>Nat.le_refl _
 |q::qs,ps=>by
  show M.many (M.give (ps.set q.toNat M.nowhere) qs) f<=_;refine Nat.le_trans (aVk hf) ?_;by_cases hq:q.toNat<ps.length
  · have:∀{ps:List DSlot} {j:Nat},M.many (ps.set j M.nowhere) f<=M.many ps f:=by
     intro ps;induction ps with
     |nil=>intro j;simp
     |cons s ps ih=>intro j;(cases j with|zero=>rw[List.set_cons_zero,jC,jC,if_neg (show M.nowhere.Frame≠f from λe=>hf e.symm)];omega|succ j=>rw[List.set_cons_succ,jC,jC];have:=ih (j:=j);omega)
    exact this
  {rw[List.set_eq_of_length_le (by omega)];exact Nat.le_refl _}
theorem bFn:∀{qs:List Int} {ps:List DSlot},ps.all M.slotOk=true->(M.give ps qs).all M.slotOk=true
 |[],_,h=>h
 |q::qs,ps,h=>by refine bFn (ps:=ps.set q.toNat M.nowhere) (qs:=qs) ?_;rw[List.all_eq_true]at*;intro s hs;rcases List.mem_or_eq_of_mem_set hs with hs|rfl;{exact h s hs};{rfl}
theorem aSn:∀{qs:List Int} {ps:List DSlot} {s:DSlot},s∈M.give ps qs->s.Write=true->s∈ps
 |[],_,_,h,_=>h
 |q::qs,ps,s,h,hw=>by have:=aSn (qs:=qs) (ps:=ps.set q.toNat M.nowhere) h hw;rcases List.mem_or_eq_of_mem_set this with h|rfl;{exact h};{cases hw}
theorem bJx(l:Live h g x){qs:List Int}{f:Int}(hf:f≠-1):M.many (M.slots (h.Guests.set g.toNat (M.giveG x qs))) f<=M.many (M.slots h.Guests) f:=by have h3:=l.ok.three;have:=l.lo;have:=l.hi;have e1:=aJd (y:=M.giveG x qs) (f:=f) (gs:=h.Guests) (i:=g.toNat) (by omega);rw[l.at_]at e1;have:M.many (M.giveG x qs).Pages f<=M.many x.Pages f:=aVk hf;omega
theorem aMs(l:Live h g x){qs:List Int}:M.hostOk ⟨h.Words,h.Guests.set g.toNat (M.giveG x qs)⟩=true:=by
 have k:=l.ok;have h3:=k.three;have:=l.lo;have:=l.hi;rw[fC];refine⟨k.len,k.words,by rw[lS];exact h3,bGn k.all ((aRz (x:=M.giveG x qs) l.live).2 ⟨l.core,give_len.trans l.pages,bFn l.slots,l.inn,l.out⟩),?_⟩;rw[aBy];intro i hi s hs hw;rw[lS]at hi
 have old:s∈(h.Guests.getD i default).Pages:=by
  by_cases eg:i=g.toNat
  {rw[eg,aDx (by omega)]at hs;rw[eg,l.at_];exact aSn hs hw};{rwa[aLk (by omega) (λe=>eg e.symm)]at hs}
 have ok:=List.all_eq_true.1 (iS (aXr k.all (by omega:i<h.Guests.length))).1 s old;have hf:s.Frame≠-1:=λe=>by unfold M.slotOk at ok;rw[dT e,cTq,hw]at ok;cases ok
 have h1:=aBy.1 k.alone i (by omega) s old hw;have h2:=bJx l (qs:=qs) hf;show M.many (M.slots (h.Guests.set g.toNat (M.giveG x qs))) s.Frame<=1;omega
theorem aQp(hs:SmallH h)(l:Live h g x){qs:List Int}:SmallH ⟨h.Words,h.Guests.set g.toNat (M.giveG x qs)⟩:=by refine⟨hs.words,by rw[lS];exact hs.guests,λy hy=>?_⟩;rcases List.mem_or_eq_of_mem_set hy with hy|rfl;{exact hs.all y hy};{exact⟨l.small.c,by show(M.give x.Pages qs).length<=_;rw[give_len];exact l.small.pages,l.small.i,l.small.o⟩}
theorem bKg(hs:SmallH h)(l:Live h g x){qs:List Int}:Live ⟨h.Words,h.Guests.set g.toNat (M.giveG x qs)⟩ g (M.giveG x qs):=by have h3:=l.ok.three;have:=l.lo;have:=l.hi;have e:((⟨h.Words,h.Guests.set g.toNat (M.giveG x qs)⟩:DHost).Guests.getD g.toNat default)=M.giveG x qs:=aDx (by omega);have:=bM (aQp hs l (qs:=qs)) (hO.2 ⟨fC.1 (aMs l),l.lo,l.hi,by rw[e];exact l.live⟩);rwa[e]at this
theorem bPe(l:Live h g x){qs:List Int}(hq:qs.all (M.inR 0 7)=true){b:Nat}(hb:b<64):(M.mem h.Words (M.giveG x qs).Pages).getD b default=if((b/8:Nat):Int)∈qs then 0 else(M.mem h.Words x.Pages).getD b default:=by have hp:=l.pages;rw[eU hb,eU hb];unfold M.word;show(if((M.give x.Pages qs).getD (b/8) default).Frame<0 then(0:Int)else h.Words.getD (((M.give x.Pages qs).getD (b/8) default).Frame.toNat*8+b%8) default)=_;rw[aXy (by omega) hq];by_cases e:((b/8:Nat):Int)∈qs;{rw[if_pos e,if_pos e,if_pos (by show(-1:Int)<0;omega)]};{rw[if_neg e,if_neg e]}
theorem bMv(l:Live h g x){qs:List Int}{k:Nat}(h3k:k<3)(hn:(k:Int)≠g):M.hostView ⟨h.Words,h.Guests.set g.toNat (M.giveG x qs)⟩ (k:Int)=M.hostView h (k:Int):=by have h3:=l.ok.three;have:=l.lo;have:=l.hi;have hk:(h.Guests.set g.toNat (M.giveG x qs)).getD k default=h.Guests.getD k default:=aLk (by omega) (by omega);unfold M.hostView M.there;rw[aMs l,fC.2 l.ok,iT];simp only[hk]
end
namespace M
def clean(s:DSlot):DSlot:=⟨s.Frame,s.Write,false⟩
end M
theorem bJa{ps:List DSlot}(h:ps.length<=1048576):qW ps=some (ps.map M.clean):=by
 unfold qW;rw[aEp h,oB]
 have key:=hM (n:=ps.length) (step:=jJ ps) (λk=>(up M.clean k ps,(k:Int))) (λ_=>true) (JO.go (ps.map M.clean)) (JO.go (ps.map M.clean)) (λk hk _=>by
  have hl:=aSk (f:=M.clean) (k:=k) (xs:=ps);have hp:=aXn (f:=M.clean) hk;simp only[jJ,iT];rw[dT (p:=(k:Int)<_) (by omega),cTq,aA ⟨by omega,by omega⟩,aF (by omega) (by omega),bSn hk,cTq,<-hp];rfl) (λ_=>by
  simp only[jJ];rw[dF (by omega),cFq,bKx (Nat.le_refl _)])
 rw[Bool.cond_self]at key;have e:up M.clean 0 ps=ps:=bEz;rw[e]at key;show Option.bind (Option.bind (iter (jJ ps) (ps,((0:Nat):Int))) LO.val) _=_;rw[key];rfl
def dec(w:Int):DEntry:=⟨decide (w%2=1),decide (w/2%2=1),decide (w/4%2=1),w/8%8⟩
theorem aXp(w:Int):0<=(dec w).Page/\(dec w).Page<=7:=by simp only[dec];omega
theorem fR{w k:Int}(h0:0<=w)(h1:w<=4095)(hk:1<=k):w64 (Int.tdiv w k)=w/k/\0<=w/k:=by have e:Int.tdiv w k=w/k:=Int.tdiv_eq_ediv_of_nonneg h0;have g0:0<=w/k:=Int.ediv_nonneg h0 (by omega);have g1:w/k<=w:=Int.ediv_le_self k h0;rw[e,aF (by omega) (by omega)];exact⟨rfl,g0⟩
theorem bDs{w:Int}(h0:0<=w)(h1:w<=4095):lQ w=some (dec w):=by unfold lQ;rw[aGr,show M.wordOk w=true from M.inR_iff.2 ⟨h0,h1⟩];simp only[oB,bT,cFq];rw[(fR h0 h1 (k:=1) (by omega)).1,(fR h0 h1 (k:=2) (by omega)).1,(fR h0 h1 (k:=4) (by omega)).1,(fR h0 h1 (k:=8) (by omega)).1,iM (fR h0 h1 (k:=1) (by omega)).2,iM (fR h0 h1 (k:=2) (by omega)).2,iM (fR h0 h1 (k:=4) (by omega)).2,iM (fR h0 h1 (k:=8) (by omega)).2,Int.ediv_one];rfl
theorem bCy{w:Int}(h0:0<=w)(h1:w<=4095):oU w=some (dec w):=by unfold oU;rw[xG,show M.wordOk w=true from M.inR_iff.2 ⟨h0,h1⟩];simp only[oB,bT,cFq];rw[(fR h0 h1 (k:=2) (by omega)).1,(fR h0 h1 (k:=4) (by omega)).1,(fR h0 h1 (k:=8) (by omega)).1,iM h0,iM (fR h0 h1 (k:=2) (by omega)).2,iM (fR h0 h1 (k:=4) (by omega)).2,iM (fR h0 h1 (k:=8) (by omega)).2];rfl
namespace M
def entry(ws:List Int)(x:DGuest)(p:Nat):DEntry:=if x.C.Root=-1 then⟨true,true,true,(p:Int)⟩else dec (word ws x.Pages (x.C.Root.toNat*8+p))
def shadeFor(x:DGuest)(e:DEntry):DShade:=⟨e.There,e.Write,e.User,e.Page,(x.Pages.getD e.Page.toNat default).Frame,(x.Pages.getD e.Page.toNat default).Write⟩
def shade(ws:List Int)(x:DGuest)(p:Nat):DShade:=shadeFor x (entry ws x p)
def shadow(ws:List Int)(x:DGuest):List DShade:=(List.range 8).map (shade ws x)
noncomputable def shadowOf (h:DHost)(g:Int):List DShade:=bif there h g then shadow h.Words (h.Guests.getD g.toNat default)else[]
def pageWords(ws:List Int)(s:DSlot):List Int:=bif decide (s.Frame=-1)then List.replicate 8 0 else page ws s.Frame.toNat
end M
theorem wI{ws:List Int}{x:DGuest}:(M.shadow ws x).length=8:=by simp[M.shadow]
theorem zO{ws:List Int}{x:DGuest}{p:Nat}(hp:p<8):(M.shadow ws x).getD p default=M.shade ws x p:=by rw[aW (by rw[wI];exact hp)];simp[M.shadow]
theorem aKo{c:DCore}(h:M.coreOk c=true):-1<=c.Root/\c.Root<=7:=by unfold M.coreOk at h;simp only[bA]at h;exact M.inR_iff.1 h.1.1.2
section
variable {h : DHost} {g : Int} {x : DGuest}
theorem aZ(l:Live h g x){p:Nat}(hp:p<8):-1<=(x.Pages.getD p default).Frame/\(x.Pages.getD p default).Frame<20:=aVq l.slots (by rw[l.pages];exact hp)
theorem bFl(l:Live h g x){a:Nat}(ha:a<64):0<=M.word h.Words x.Pages a/\M.word h.Words x.Pages a<=4095:=by have:=aZ l (p:=a/8) (by omega);have:=l.ok.len;unfold M.word;split;{omega};{exact iU l.ok.words (by omega)}
theorem tW{ws:List Int}{s:DSlot}(hw:ws.length=160)(hs:-1<=s.Frame/\s.Frame<20):bZ ws s=some (M.pageWords ws s):=by unfold bZ M.pageWords;by_cases e:s.Frame=-1;{rw[dT e];rfl};{rw[dF e,cFq,cFq,bSk (by omega) (by omega) (by omega)];rfl}
theorem jZ{ws:List Int}{s:DSlot}(hw:ws.length=160)(hs:-1<=s.Frame/\s.Frame<20):(M.pageWords ws s).length=8:=by unfold M.pageWords;by_cases e:s.Frame=-1;{rw[dT e,cTq,List.length_replicate]};{rw[dF e,cFq];exact nJ (by omega)}
theorem kF{ws:List Int}{s:DSlot}(hs:-1<=s.Frame/\s.Frame<20){a:Nat}(ha:a<8):(M.pageWords ws s).getD a default=if s.Frame<0 then 0 else ws.getD (s.Frame.toNat*8+a) default:=by unfold M.pageWords;by_cases e:s.Frame=-1;{rw[dT e,cTq,if_pos (by omega),aW (by rw[List.length_replicate];exact ha),List.getElem_replicate]};{rw[dF e,cFq,if_neg (by omega)];exact pF ha}
theorem aEc{ws:List Int}{ps:List DSlot}{r p:Nat}(hp:p<8):M.word ws ps (r*8+p)=if(ps.getD r default).Frame<0 then 0 else ws.getD ((ps.getD r default).Frame.toNat*8+p) default:=by unfold M.word;rw[show(r*8+p)/8=r by omega,show(r*8+p)%8=p by omega]
theorem zJ(l:Live h g x){p:Nat}(hp:p<8):0<=(M.entry h.Words x p).Page/\(M.entry h.Words x p).Page<=7:=by unfold M.entry;split;{simp only;omega};{exact aXp _}
theorem bMz(l:Live h g x){p:Nat}(hp:p<8):sP h g (p:Int)=some (M.entry h.Words x p):=by have:=l.ok.three;have:=l.lo;have:=l.hi;have hpl:=l.pages;have hr:=aKo l.core;unfold sP M.entry;rw[aA ⟨l.lo,by omega⟩,l.at_];by_cases e:x.C.Root=-1;{rw[dT e,if_pos e];rfl};{have hsl:=aZ l (p:=x.C.Root.toNat) (by omega);rw[dF e,if_neg e,cFq,aA ⟨by omega,by omega⟩];show Option.bind (bZ h.Words (x.Pages.getD x.C.Root.toNat default)) _=_;rw[tW l.ok.len hsl,oB,aA ⟨by omega,by rw[jZ l.ok.len hsl];omega⟩,iT,kF hsl hp];have hw:=bFl l (a:=x.C.Root.toNat*8+p) (by omega);rw[aEc hp]at hw ⊢;rw[bDs hw.1 hw.2];rfl}
theorem bNg(l:Live h g x){p:Nat}(hp:p<8):rV h g (p:Int)=some (M.shade h.Words x p):=by have:=l.ok.three;have:=l.lo;have:=l.hi;have hpl:=l.pages;have he:=zJ l hp;unfold rV;rw[bMz l hp,oB,aA ⟨l.lo,by omega⟩,l.at_,aA ⟨by omega,by omega⟩];rfl
end
section
variable {h : DHost} {g : Int} {x : DGuest}
theorem bAb(l:Live h g x){a:Nat}(ha:a<64):qC h g (a:Int)=some (M.word h.Words x.Pages a):=by have:=l.ok.three;have:=l.lo;have:=l.hi;have hpl:=l.pages;have hlw:=l.ok.len;have hr:=aZ l (p:=a/8) (by omega);unfold qC M.word;rw[aA ⟨l.lo,by omega⟩,l.at_,td8,tm8,aF (z:=((a/8:Nat):Int)) (by omega) (by omega),iT,aA ⟨by omega,by omega⟩];by_cases e:(x.Pages.getD (a/8) default).Frame<0;{rw[dT e,if_pos e];rfl};{rw[dF e,if_neg e,cFq,aF (z:=(x.Pages.getD (a/8) default).Frame*8) (by omega) (by omega),aF (z:=(x.Pages.getD (a/8) default).Frame*8+((a%8:Nat):Int)) (by omega) (by omega),aA ⟨by omega,by omega⟩];rw[show Int.toNat ((x.Pages.getD (a/8) default).Frame*8+((a%8:Nat):Int))=(x.Pages.getD (a/8) default).Frame.toNat*8+a%8 by omega]}
end
theorem aSy{h:DHost}{g:Int}(hs:SmallH h):jN h g=some (M.shadowOf h g):=by
 unfold jN M.shadowOf;rw[xX hs,oB];cases ht:M.there h g with
 |false=>rfl
 |true=>
  have l:=bM hs ht;generalize hx:h.Guests.getD g.toNat default=x at l;have:=l.ok.three;have:=l.lo;have:=l.hi;have hpl:=l.pages;have hr:=aKo l.core;rw[bT,cFq]
  have key:=(aEz (n:=8) (step:=nI h g) (λs j=>(s,j)) (λs i=>s++[M.shade h.Words x i]) (λs=>JO.go s) (λk s=>s.length=k) (λi s hi hs=>by
   refine⟨?_,by simp;omega⟩;have he:=zJ l hi;have run:JO.run (.go ((M.entry h.Words x i).There,(M.entry h.Words x i).Write,(M.entry h.Words x i).User,(M.entry h.Words x i).Page)) (rH h g (s,(i:Int)))=some (LO.next (s++[M.shade h.Words x i],(i:Int)+1)):=(by simp only[JO.run,rH];rw[aA ⟨l.lo,by omega⟩,l.at_,aA ⟨by omega,by omega⟩,aA ⟨by simp;omega,by simp;omega⟩,aF (by omega) (by omega)];rfl);simp only[nI];rw[dT (p:=(i:Int)<8) (by omega),cTq,aA ⟨l.lo,by omega⟩,l.at_];by_cases e:x.C.Root=-1;{rw[dF (by omega),cFq,oB];have ee:M.entry h.Words x i=⟨true,true,true,(i:Int)⟩:=(by unfold M.entry;rw[if_pos e]);rw[ee]at run;exact run}
   · have ee:M.entry h.Words x i=dec (M.word h.Words x.Pages (x.C.Root.toNat*8+i)):=(by unfold M.entry;rw[if_neg e]);have hw:=bFl l (a:=x.C.Root.toNat*8+i) (by omega);rw[dT (by omega),cTq,aF (z:=x.C.Root*8) (by omega) (by omega),aF (z:=x.C.Root*8+(i:Int)) (by omega) (by omega),show x.C.Root*8+(i:Int)=((x.C.Root.toNat*8+i:Nat):Int) by omega,bAb l (by omega),oB,bCy hw.1 hw.2];rw[ee]at run;exact run) (λs _=>by
   simp only[nI];rfl) [] rfl).1
  rw[key,aZf];rfl
theorem gY{h:DHost}(hs:SmallH h)(hk:HOk h):cH h=some h:=by unfold cH;rw[lD hs.words,aQz hs.guests hs.all hk.all];rfl
namespace M
def zeroH:DHost:=⟨[],[]⟩
def inFrame(h:DHost)(g page frame:Int):DHost:=⟨over h.Words (frame.toNat*8) 8 (pageWords h.Words ((h.Guests.getD g.toNat default).Pages.getD page.toNat default)),h.Guests.set g.toNat ⟨(h.Guests.getD g.toNat default).Live,(h.Guests.getD g.toNat default).C,(h.Guests.getD g.toNat default).Pages.set page.toNat ⟨frame,true,((h.Guests.getD g.toNat default).Pages.getD page.toNat default).Dirty⟩,(h.Guests.getD g.toNat default).In,(h.Guests.getD g.toNat default).Out⟩⟩
def inFree(h:DHost)(g page:Int):DHost×Bool:=bif decide ((free (slots h.Guests)).length=0)then(zeroH,false)else(inFrame h g page ((free (slots h.Guests)).getD 0 default),true)
noncomputable def hostFill (h:DHost)(g page:Int):DHost×Bool:=bif there h g&&inR 0 7 page then
 (bif decide (((h.Guests.getD g.toNat default).Pages.getD page.toNat default).Frame=-1)then inFree h g page else(h,true))
 else(zeroH,false)
noncomputable def hostCopy (h:DHost)(g page:Int):DHost×Bool:=bif there h g&&inR 0 7 page then
 (bif decide (((h.Guests.getD g.toNat default).Pages.getD page.toNat default).Frame=-1)then(zeroH,false)
  else bif decide (many (slots h.Guests) ((h.Guests.getD g.toNat default).Pages.getD page.toNat default).Frame=1)then(inFrame h g page ((h.Guests.getD g.toNat default).Pages.getD page.toNat default).Frame,true)
  else inFree h g page)
 else(zeroH,false)
end M
theorem aKz{ss:List DSlot}{i:Nat}(hi:i<(M.free ss).length):0<=(M.free ss).getD i default/\(M.free ss).getD i default<20:=by have hm:=cM hi;rw[aOo]at hm;obtain⟨j,hj,e⟩:=List.mem_map.1 hm;have:=(List.mem_filter.1 hj).1;rw[List.mem_range]at this;rw[aOo,<-e];omega
section
variable {h : DHost} {g : Int} {x : DGuest}
theorem aWo(hs:SmallH h)(l:Live h g x){p f:Int}(p0:0<=p)(p1:p<=7)(f0:0<=f)(f1:f<20):iH h g p f=some (M.inFrame h g p f):=by have:=l.ok.three;have:=l.lo;have:=l.hi;have hpl:=l.pages;have hlw:=l.ok.len;have hsl:=aZ l (p:=p.toNat) (by omega);unfold iH;rw[gY hs l.ok,oB];simp only[l.at_];rw[aA ⟨l.lo,by omega⟩,aA ⟨p0,by omega⟩,aYz f0 (by omega) (by omega),oB,aA rfl,aA (by simp only[];omega)];show Option.bind (bZ h.Words (x.Pages.getD p.toNat default)) _=_;rw[tW hlw hsl,oB,aA ⟨l.lo,by omega⟩,aA ⟨p0,by omega⟩];unfold M.inFrame;rw[l.at_]
theorem aZs(hs:SmallH h)(l:Live h g x){p:Int}(p0:0<=p)(p1:p<=7):jA h g p=some (M.inFree h g p):=by unfold jA M.inFree;rw[bBs hs.guests l.ok.all,oB];by_cases e:(M.free (M.slots h.Guests)).length=0;{rw[dT e,dT (by omega)];rfl};{have hf:=aKz (ss:=M.slots h.Guests) (i:=0) (by omega);rw[dF e,dF (by omega),cFq,cFq,aA ⟨by omega,by omega⟩,aWo hs l p0 p1 hf.1 hf.2];rfl}
end
theorem aRp{h:DHost}{g p:Int}(hs:SmallH h):jO h g p=some (M.hostFill h g p):=by unfold jO M.hostFill;rw[sR hs,oB];(cases ht:M.there h g with|false=>rfl|true=>have l:=bM hs ht;generalize hx:h.Guests.getD g.toNat default=x at l;have:=l.ok.three;have:=l.lo;have:=l.hi;have hpl:=l.pages;rw[bT,cFq,wT,oB,Bool.true_and];(cases hp:M.inR 0 7 p with|false=>rfl|true=>obtain⟨p0,p1⟩:=M.inR_iff.1 hp;rw[bT,cFq,cTq,aA ⟨l.lo,by omega⟩,aA ⟨p0,by omega⟩];(cases decide ((x.Pages.getD p.toNat default).Frame=-1)with|false=>rw[bF,cTq,gY hs l.ok];rfl|true=>rw[bT,cFq,aZs hs l p0 p1];rfl)))
theorem aSf{h:DHost}{g p:Int}(hs:SmallH h):jS h g p=some (M.hostCopy h g p):=by
 unfold jS M.hostCopy;rw[sR hs,oB];cases ht:M.there h g with
 |false=>rfl
 |true=>
  have l:=bM hs ht;generalize hx:h.Guests.getD g.toNat default=x at l;have:=l.ok.three;have:=l.lo;have:=l.hi;have hpl:=l.pages;rw[bT,cFq,wT,oB,Bool.true_and];cases hp:M.inR 0 7 p with
  |false=>rfl
  |true=>
   obtain⟨p0,p1⟩:=M.inR_iff.1 hp;have hsl:=aZ l (p:=p.toNat) (by omega);have hss:=vL l.ok.all;have hl2:=rR hss;rw[bT,cFq,cTq,aA ⟨l.lo,by omega⟩,aA ⟨p0,by omega⟩];by_cases e:(x.Pages.getD p.toNat default).Frame=-1;{rw[dT e];rfl}
   · have e0:decide ((M.takers (M.slots h.Guests)).getD (x.Pages.getD p.toNat default).Frame.toNat default=1)=decide (M.many (M.slots h.Guests) (x.Pages.getD p.toNat default).Frame=1):=by
      rw[decide_eq_decide,wD hss (by omega),show(((x.Pages.getD p.toNat default).Frame.toNat:Nat):Int)=(x.Pages.getD p.toNat default).Frame by omega];omega
     rw[dF e,cFq,cFq,aOt hs.guests l.ok.all,oB,aA ⟨by omega,by omega⟩,e0];(cases decide (M.many (M.slots h.Guests) (x.Pages.getD p.toNat default).Frame=1)with|true=>rw[cTq,cTq,aWo hs l p0 p1 (by omega) (by omega)];rfl|false=>rw[cFq,cFq,aZs hs l p0 p1];rfl)
section
variable {ws : List Int}
theorem bLi{f:Nat}(h:f*8+8<=ws.length):over ws (f*8) 8 (M.page ws f)=ws:=by have hp:(M.page ws f).length=8:=nJ h;refine gP (n:=ws.length) (nA h) rfl λa ha=>?_;rw[uS hp h];by_cases h1:a<f*8;{rw[if_pos h1]};{by_cases h2:a<f*8+8;{rw[if_neg h1,if_pos h2];show((ws.drop (f*8)).take 8).getD (a-f*8) default=_;rw[pF (by omega)];congr 1;omega};{rw[if_neg h1,if_neg h2]}}
theorem bMd{o f:Nat}(h:f*8+8<=ws.length):over ws o 8 (List.take (ws.length-f*8) (List.drop (f*8) ws))=over ws o 8 (M.page ws f):=by have hp:(M.page ws f).length=8:=nJ h;have e1:List.take (ws.length-f*8) (List.drop (f*8) ws)=List.drop (f*8) ws:=List.take_of_length_le (by rw[List.length_drop];exact Nat.le_refl _);unfold over;rw[e1,hp,List.length_drop,show min 8 (ws.length-f*8)=8 by omega,Nat.min_self,List.take_of_length_le (l:=M.page ws f) (by omega)];rfl
theorem bMx{o i:Nat}(h:o+8<=ws.length)(hi:i<8):(over ws o i (List.replicate i 0)).set (o+i) 0=over ws o (i+1) (List.replicate (i+1) 0):=by refine gP (n:=ws.length) (by rw[lS,nA (by omega)]) (nA (by omega)) λa ha=>?_;rw[wZ (by rw[nA (by omega)];omega),uS (by simp) (by omega),uS (by simp) (by omega)];by_cases h1:a<o;{rw[if_neg (by omega),if_pos h1,if_pos h1]};{by_cases h2:a<o+i;{rw[if_neg (by omega),if_neg h1,if_pos h2,if_neg h1,if_pos (by omega),aW (by rw[List.length_replicate];omega),List.getElem_replicate,aW (by rw[List.length_replicate];omega),List.getElem_replicate]};{by_cases h3:a=o+i;{rw[if_pos h3.symm,if_neg h1,if_pos (by omega),aW (by rw[List.length_replicate];omega),List.getElem_replicate]};{rw[if_neg (by omega),if_neg h1,if_neg h2,if_neg h1,if_neg (by omega)]}}}
theorem bKh{o:Nat}:over ws o 0 []=ws:=by simp[over]
end
theorem bNn{ws free:List Int}{f:Int}(hf:free.getD 0 default=f)(h0:0<=f)(h1:f<20)(hw:ws.length=160)(hl:0<free.length):iter (iW free) (ws,0)=some (.ret (.go (over ws (f.toNat*8) 8 (List.replicate 8 0)))):=by
 have key:=hM (n:=8) (step:=iW free) (λi=>(over ws (f.toNat*8) i (List.replicate i 0),(i:Int))) (λ_=>true) (JO.go (over ws (f.toNat*8) 8 (List.replicate 8 0))) (JO.go []) (λi hi _=>by
  have hl2:(over ws (f.toNat*8) i (List.replicate i 0)).length=160:=(by rw[nA (by omega),hw]);simp only[iW,hf,hl2];rw[dT (p:=(i:Int)<8) (by omega),cTq,aA ⟨by omega,by omega⟩,aF (z:=f*8) (by omega) (by omega),aF (z:=f*8+(i:Int)) (by omega) (by omega),aF (z:=(i:Int)+1) (by omega) (by omega),aA ⟨by omega,by omega⟩,show Int.toNat (f*8+(i:Int))=f.toNat*8+i by omega,bMx (by omega) hi];rfl) (λ_=>by
  simp only[iW];rfl)
 have e0:((List.range 8).all λ_=>true)=true:=(by decide);rw[e0]at key;simp only[List.replicate_zero,bKh,cTq]at key;exact key
theorem bLf{s:DSlot}(h:M.slotOk s=true)(e:s.Frame=-1):s.Dirty=false:=by unfold M.slotOk at h;rw[dT e,cTq]at h;cases hd:s.Dirty;{rfl};{rw[hd]at h;simp at h}
theorem aSr{h:DHost}{g p:Int}(hs:SmallH h):gF h g p=some (M.hostFill h g p):=by unfold gF M.hostFill;rw[xX hs,oB];(cases ht:M.there h g with|false=>rfl|true=>have l:=bM hs ht;have hfr:=aQg hs;unfold M.hostFree at hfr;rw[fC.2 l.ok,cTq]at hfr;generalize hx:h.Guests.getD g.toNat default=x at l;have:=l.ok.three;have:=l.lo;have:=l.hi;have hpl:=l.pages;rw[bT,cFq,rC,oB,Bool.true_and];(cases hp:M.inR 0 7 p with|false=>rfl|true=>obtain⟨p0,p1⟩:=M.inR_iff.1 hp;have hsl:=aZ l (p:=p.toNat) (by omega);have hso:=List.all_eq_true.1 l.slots _ (cM (k:=p.toNat) (by omega));rw[bT,cFq,cTq,aDo hs l.ok.all,oB,aA ⟨l.lo,by omega⟩,aA ⟨p0,by omega⟩];by_cases e:(x.Pages.getD p.toNat default).Frame=-1;{rw[dT e,dF (by omega),cFq,cTq,hfr,oB];unfold M.inFree;by_cases e2:(M.free (M.slots h.Guests)).length=0;{rw[dT e2,dT (by omega)];rfl};{have hf:=aKz (ss:=M.slots h.Guests) (i:=0) (by omega);rw[dF e2,dF (by omega),cFq,cFq,bNn rfl hf.1 hf.2 l.ok.len (by omega)];simp only[oB,LO.val,JO.run,yL,hx];rw[aA ⟨l.lo,by omega⟩,aA ⟨by omega,by omega⟩,aA ⟨p0,by omega⟩];unfold M.inFrame M.pageWords;rw[hx,dT e,cTq,bLf hso e]}};{rw[dF e,dT (by omega)];rfl}))
theorem aJt{h:DHost}{g:Int}{x:DGuest}(l:Live h g x){p:Nat}(hp:p<8):1<=M.many (M.slots h.Guests) (x.Pages.getD p default).Frame:=by have:=l.ok.three;have:=l.lo;have:=l.hi;have hpl:=l.pages;unfold M.many;refine List.countP_pos_iff.2 ⟨x.Pages.getD p default,?_,by simp⟩;refine List.mem_flatMap.2 ⟨x,?_,cM (by omega)⟩;rw[<-l.at_];exact cM (by omega)
theorem aIl{h:DHost}{g:Int}{x:DGuest}(l:Live h g x){p:Nat}(hp:p<8):x.Pages.getD p default∈M.slots h.Guests:=by have:=l.ok.three;have:=l.lo;have:=l.hi;have hpl:=l.pages;refine List.mem_flatMap.2 ⟨x,?_,cM (by omega)⟩;rw[<-l.at_];exact cM (by omega)
theorem aQo{h:DHost}{g p:Int}(hs:SmallH h):gH h g p=some (M.hostCopy h g p):=by unfold gH M.hostCopy;rw[xX hs,oB];(cases ht:M.there h g with|false=>rfl|true=>have l:=bM hs ht;have hfr:=aQg hs;unfold M.hostFree at hfr;rw[fC.2 l.ok,cTq]at hfr;generalize hx:h.Guests.getD g.toNat default=x at l;have:=l.ok.three;have:=l.lo;have:=l.hi;have hpl:=l.pages;have hlw:=l.ok.len;rw[bT,cFq,rC,oB,Bool.true_and];(cases hp:M.inR 0 7 p with|false=>rfl|true=>obtain⟨p0,p1⟩:=M.inR_iff.1 hp;have hsl:=aZ l (p:=p.toNat) (by omega);have hss:=vL l.ok.all;have hl2:=rR hss;have hm1:=aJt l (p:=p.toNat) (by omega);have hal:=List.all_eq_true.1 l.ok.alone _ (aIl l (p:=p.toNat) (by omega));rw[bT,cFq,cTq,aA ⟨l.lo,by omega⟩,aA ⟨p0,by omega⟩];by_cases e:(x.Pages.getD p.toNat default).Frame=-1;{rw[dT e,dT (by omega)];rfl};{have hpf:(x.Pages.getD p.toNat default).Frame.toNat*8+8<=h.Words.length:=(by omega);have hpw:M.pageWords h.Words (x.Pages.getD p.toNat default)=M.page h.Words (x.Pages.getD p.toNat default).Frame.toNat:=(by unfold M.pageWords;rw[dF e,cFq]);have same:JO.run (.go (h.Words,(x.Pages.getD p.toNat default).Frame)) (nC h g p h)=some (M.inFrame h g p (x.Pages.getD p.toNat default).Frame,true):=(by simp only[JO.run,nC,hx];rw[aA ⟨l.lo,by omega⟩,aA ⟨p0,by omega⟩];unfold M.inFrame;rw[hx,hpw,bLi hpf]);rw[dF e,dF (by omega),cFq,cFq,aDo hs l.ok.all,oB,aA ⟨l.lo,by omega⟩,aA ⟨p0,by omega⟩];(cases hw:(x.Pages.getD p.toNat default).Write with|true=>rw[hw,bT,Bool.false_or,decide_eq_true_eq]at hal;rw[bT,cFq,dT (by omega),cTq,oB,same]|false=>have e0:decide ((1:Int)<(M.takers (M.slots h.Guests)).getD (x.Pages.getD p.toNat default).Frame.toNat default)=!decide (M.many (M.slots h.Guests) (x.Pages.getD p.toNat default).Frame=1):=(by rw[wD hss (by omega),show(((x.Pages.getD p.toNat default).Frame.toNat:Nat):Int)=(x.Pages.getD p.toNat default).Frame by omega];by_cases q:M.many (M.slots h.Guests) (x.Pages.getD p.toNat default).Frame=1;{rw[dT q,dF (by omega)];rfl};{rw[dF q,dT (by omega)];rfl});rw[bF,cTq,bNw hs l.ok,oB,aA ⟨by omega,by omega⟩,e0];(cases decide (M.many (M.slots h.Guests) (x.Pages.getD p.toNat default).Frame=1)with|true=>rw[bT,cFq,cTq,oB,same]|false=>rw[bF,cTq,cFq,hfr,oB];unfold M.inFree;by_cases e2:(M.free (M.slots h.Guests)).length=0;{rw[dT e2,dT (by omega)];rfl};{have hf:=aKz (ss:=M.slots h.Guests) (i:=0) (by omega);generalize hff:(M.free (M.slots h.Guests)).getD 0 default=f at hf;rw[dF e2,dF (by omega),cFq,cFq,aA ⟨by omega,by omega⟩,aA ⟨by omega,by omega⟩,aF (z:=f*8) (by omega) (by omega),aF (z:=f+1) (by omega) (by omega),aF (z:=(f+1)*8) (by omega) (by omega),aF (z:=(x.Pages.getD p.toNat default).Frame*8) (by omega) (by omega),aA ⟨by omega,by omega,by omega⟩,aA ⟨by omega,by omega,by omega⟩,aA ⟨by omega,by omega⟩,oB];rw[show Int.toNat (f*8)=f.toNat*8 by omega,show Int.toNat ((f+1)*8)-f.toNat*8=8 by omega,show Int.toNat ((h.Words.length:Nat):Int)-Int.toNat ((x.Pages.getD p.toNat default).Frame*8)=h.Words.length-(x.Pages.getD p.toNat default).Frame.toNat*8 by omega,show Int.toNat ((x.Pages.getD p.toNat default).Frame*8)=(x.Pages.getD p.toNat default).Frame.toNat*8 by omega,bMd hpf];simp only[JO.run,nC,hx];rw[aA ⟨l.lo,by omega⟩,aA ⟨p0,by omega⟩];unfold M.inFrame;rw[hx,hpw]}))}))
noncomputable def qS (_:DSlot)(k:Int):DSlot×Int:=(⟨k,decide (Int.tmod (k+1) 3=0),decide (Int.tmod (k+1+1) 3=0)⟩,k+1+1+1)
theorem aOw(x:DSlot)(k:Int):k<=(qS x k).2/\(qS x k).2<=k+3:=by simp only[qS];omega
theorem iE{z:Int}(h0:0<=z)(h1:z<=1152921504606846976):w64 z=z:=aF (by omega) (by omega)
theorem bBe{xs:List DSlot}{k:Int}(h:xs.length<=1048576)(h0:0<=k)(h1:k<=4503599627370496):lY xs k=some ((cC qS xs k).1,(cC qS xs k).2):=by have key:=aJj (m:=qS) (C:=3) (B:=9007199254740992) (step:=hZ) (xs:=xs) (k:=k) (λx _ k=>aOw x k) h0 (by omega) (by omega) (λzs i q hz hi _ hq hb=>by have e1:(i:Int)<(zs.length:Int):=(by omega);simp only[hZ,dT e1,cTq];rw[aA ⟨by omega,e1⟩,iT,iE (z:=q+1) (by omega) (by omega),iE (z:=q+1+1) (by omega) (by omega),iE (z:=q+1+1+1) (by omega) (by omega),iE (z:=(i:Int)+1) (by omega) (by omega)];rw[aA ⟨by omega,e1⟩,aA ⟨by omega,e1⟩];rfl) (λzs q _=>by simp only[hZ];rw[dF (by omega),cFq]);unfold lY;rw[key];rfl
theorem bBw{xs:List DSlot}{k:Int}(h:xs.length<=1048576)(h0:0<=k)(h1:k<=4503599627370496):oS (cC qS xs k).1 k=some (cC qS xs k).2:=by have key:=aJq (m:=qS) (C:=3) (B:=9007199254740992) (step:=mD) (xs:=xs) (k:=k) (λx _ k=>aOw x k) h0 (by omega) (by omega) (λzs i x q hz hi _ hq hb hg=>by have e1:(i:Int)<(zs.length:Int):=(by omega);simp only[mD,dT e1,cTq];rw[aA ⟨by omega,e1⟩,iT,hg,iE (z:=q+1) (by omega) (by omega),iE (z:=q+1+1) (by omega) (by omega),iE (z:=q+1+1+1) (by omega) (by omega),iE (z:=(i:Int)+1) (by omega) (by omega)];rw[aA ⟨by omega,e1⟩,aA ⟨by omega,e1⟩];simp[qS]) (λzs q _=>by simp only[mD];rw[dF (by omega),cFq]);unfold oS;rw[key];rfl
noncomputable def kS (g:DGuest)(k:Int):DGuest×Int:=
 let q:=k+1+(g.C.Regs.length:Int);let p:=cC qS g.Pages (q+1+1+1+1+1+1+1+1+1+1+1+1)
 (⟨decide (Int.tmod k 3=0),⟨kG (k+1) g.C.Regs.length,q,q+1,q+1+1,q+1+1+1,decide (Int.tmod (q+1+1+1+1) 3=0),q+1+1+1+1+1,q+1+1+1+1+1+1,q+1+1+1+1+1+1+1,
  decide (Int.tmod (q+1+1+1+1+1+1+1+1) 3=0),decide (Int.tmod (q+1+1+1+1+1+1+1+1+1) 3=0),decide (Int.tmod (q+1+1+1+1+1+1+1+1+1+1) 3=0),decide (Int.tmod (q+1+1+1+1+1+1+1+1+1+1+1) 3=0)⟩,
  p.1,kG p.2 g.In.length,kG (p.2+g.In.length) g.Out.length⟩,p.2+g.In.length+g.Out.length)
theorem aKd{xs:List DSlot}{k:Int}(h:xs.length<=1048576):k<=(cC qS xs k).2/\(cC qS xs k).2<=k+3145728:=by have:=aGd (m:=qS) (C:=3) (xs:=xs) (k:=k) λx _ k=>aOw x k;omega
theorem aKi{g:DGuest}(h:SmallG g)(k:Int):k<=(kS g k).2/\(kS g k).2<=k+8388608:=by have:=h.c.regs;have:=h.i;have:=h.o;have:=aKd (k:=k+1+(g.C.Regs.length:Int)+1+1+1+1+1+1+1+1+1+1+1+1) h.pages;simp only[kS];omega
theorem aWw{xs:List DGuest}{k:Int}(h:xs.length<=1048576)(hs:∀g∈xs,SmallG g)(h0:0<=k)(h1:k<=4503599627370496-8796093022208-8388608):kP xs k=some ((cC kS xs k).1,(cC kS xs k).2):=by have key:=aJj (m:=kS) (C:=8388608) (B:=4503599627370496-8388608) (step:=gI) (xs:=xs) (k:=k) (λx hx k=>aKi (hs x hx) k) h0 (by omega) (by omega) (λzs i q hz hi hm hq hb=>by have hg:=hs _ hm;generalize hgg:zs.getD i default=g at hg;have:=hg.c.regs;have:=hg.pages;have:=hg.i;have:=hg.o;have e1:(i:Int)<(zs.length:Int):=(by omega);have g0:(0:Int)<=(i:Int)/\(i:Int)<(zs.length:Int):=⟨by omega,e1⟩;have hp:=aKd (k:=q+1+(g.C.Regs.length:Int)+1+1+1+1+1+1+1+1+1+1+1+1) hg.pages;simp only[gI,dT e1,cTq,iT,hgg,aA g0];rw[iE (z:=q+1) (by omega) (by omega),xR (by omega) (by omega) (by omega),oB];simp only[];generalize hr:q+1+(g.C.Regs.length:Int)=r at hp;rw[aA (by rw[lB]),iE (z:=r+1) (by omega) (by omega),iE (z:=r+1+1) (by omega) (by omega),iE (z:=r+1+1+1) (by omega) (by omega),iE (z:=r+1+1+1+1) (by omega) (by omega),iE (z:=r+1+1+1+1+1) (by omega) (by omega),iE (z:=r+1+1+1+1+1+1) (by omega) (by omega),iE (z:=r+1+1+1+1+1+1+1) (by omega) (by omega),iE (z:=r+1+1+1+1+1+1+1+1) (by omega) (by omega),iE (z:=r+1+1+1+1+1+1+1+1+1) (by omega) (by omega),iE (z:=r+1+1+1+1+1+1+1+1+1+1) (by omega) (by omega),iE (z:=r+1+1+1+1+1+1+1+1+1+1+1) (by omega) (by omega),iE (z:=r+1+1+1+1+1+1+1+1+1+1+1+1) (by omega) (by omega),iE (z:=(i:Int)+1) (by omega) (by omega)];rw[bBe hg.pages (by omega) (by omega),oB,aA (by rw[rE]),xR (by omega) (by simp only;omega) (by simp only;omega),oB,aA (by rw[lB]),xR (by omega) (by simp only;omega) (by simp only;omega),oB,aA (by rw[lB])];simp only[kS,hr]) (λzs q _=>by simp only[gI];rw[dF (by omega),cFq]);unfold kP;rw[key];rfl
theorem aWs{xs:List DGuest}{k:Int}(h:xs.length<=1048576)(hs:∀g∈xs,SmallG g)(h0:0<=k)(h1:k<=4503599627370496-8796093022208-8388608):nR (cC kS xs k).1 k=some (cC kS xs k).2:=by have key:=aJq (m:=kS) (C:=8388608) (B:=4503599627370496-8388608) (step:=kT) (xs:=xs) (k:=k) (λx hx k=>aKi (hs x hx) k) h0 (by omega) (by omega) (λzs i g q hz hi hm hq hb hgg=>by have hg:=hs _ hm;have:=hg.c.regs;have:=hg.pages;have:=hg.i;have:=hg.o;have e1:(i:Int)<(zs.length:Int):=(by omega);have g0:(0:Int)<=(i:Int)/\(i:Int)<(zs.length:Int):=⟨by omega,e1⟩;have hp:=aKd (k:=q+1+(g.C.Regs.length:Int)+1+1+1+1+1+1+1+1+1+1+1+1) hg.pages;unfold kT;rw[dT e1,cTq,aA g0,iT,hgg];simp(disch:=omega) only[kS,iE,beq_self_eq_true,decide_true,bT,cFq,aNp,oB,dF,aA g0,bBw hg.pages]) (λzs q _=>by simp only[kT];rw[dF (by omega),cFq]);unfold nR;rw[key];rfl
noncomputable def eP (h:DHost)(k:Int):DHost×Int:=(⟨kG k h.Words.length,(cC kS h.Guests (k+h.Words.length)).1⟩,(cC kS h.Guests (k+h.Words.length)).2)
theorem aRw{xs:List DGuest}{k:Int}(h:xs.length<=1048576)(hs:∀g∈xs,SmallG g):k<=(cC kS xs k).2/\(cC kS xs k).2<=k+8796093022208:=by have:=aGd (m:=kS) (C:=8388608) (xs:=xs) (k:=k) λx hx k=>aKi (hs x hx) k;omega
theorem jD{h:DHost}{k:Int}:(eP h k).1.Words.length=h.Words.length/\(eP h k).1.Guests.length=h.Guests.length:=by simp[eP,lB,rE]
theorem tV{h:DHost}{g p f:Int}{x:DGuest}(hs:SmallH h)(l:Live h g x)(f0:0<=f)(f1:f<20):SmallH (M.inFrame h g p f):=by have hlw:=l.ok.len;unfold M.inFrame;refine⟨?_,by simpa using hs.guests,λy hy=>?_⟩;{rw[nA (by omega)];exact hs.words};{rcases List.mem_or_eq_of_mem_set hy with hy|rfl;{exact hs.all y hy};{rw[l.at_];exact⟨l.small.c,by simpa using l.small.pages,l.small.i,l.small.o⟩}}
theorem bOj{T:Type}{xs ys:List T}{o k:Nat}(h:ys.length=8)(hk:8<=k):over xs o k ys=over xs o 8 ys:=by simp only[over,h];rw[Nat.min_eq_right hk,Nat.min_self]
theorem bLu{h h':DHost}{k:Int}(h1:M.hostOk h=true)(h2:M.hostOk h'=true)(hw:h'.Words=h.Words)(hg:h'.Guests.getD k.toNat default=h.Guests.getD k.toNat default):M.hostView h' k=M.hostView h k:=by unfold M.hostView M.there;rw[h1,h2,hw,hg]
theorem bOb{ss:List DSlot}{i:Nat}(hi:i<(M.free ss).length):M.many ss ((M.free ss).getD i default)=0:=by have hm:=cM hi;have key:∀x∈M.free ss,M.many ss x=0:=(by intro x hx;rw[aOo]at hx;obtain⟨j,hj,rfl⟩:=List.mem_map.1 hx;exact of_decide_eq_true (List.mem_filter.1 hj).2);exact key _ hm
def M.fr(mem:List Int)(ss:List DSlot)(p:Nat):Int:=(M.free ss).getD (M.used mem p) default
section
variable {mem ws : List Int} {ss : List DSlot} (hu : M.used mem 8 ≤ (M.free ss).length)
include hu
end
theorem oP{xs:List Int}:M.wordsOk xs=true↔∀a,a<xs.length->M.wordOk (xs.getD a default)=true:=by simp only[M.wordsOk,List.all_eq_true];constructor;{intro h a ha;exact h _ (cM ha)};{intro h x hx;obtain⟨i,hi,rfl⟩:=List.mem_iff_getElem.1 hx;have:=h i hi;rwa[aW hi]at this}
theorem aVo{x:DGuest}{s:DSlot}:∀{gs:List DGuest} {i:Nat},s∈M.slots (gs.set i x)->s∈M.slots gs\/s∈x.Pages
 |[],i,h=>by simp[M.slots]at h
 |g::gs,0,h=>by simp only[List.set_cons_zero,M.slots,List.flatMap_cons,List.mem_append]at h ⊢;rcases h with h|h;{exact .inr h};{exact .inl (.inr h)}
 |g::gs,i+1,h=>by simp only[List.set_cons_succ,M.slots,List.flatMap_cons,List.mem_append]at h ⊢;rcases h with h|h;{exact .inl (.inl h)};{rcases aVo h with h|h;{exact .inl (.inr h)};{exact .inr h}}
theorem aKc{s':DSlot}{f:Int}:∀{ps:List DSlot} {j:Nat},j<ps.length->M.many (ps.set j s') f+(if(ps.getD j default).Frame=f then 1 else 0)=M.many ps f+(if s'.Frame=f then 1 else 0)
 |[],j,h=>by simp at h
 |s::ps,0,_=>by rw[List.set_cons_zero,jC,jC];show M.many ps f+(if s'.Frame=f then 1 else 0)+(if s.Frame=f then 1 else 0)=_;omega
 |s::ps,j+1,h=>by have ih:=aKc (s':=s') (f:=f) (ps:=ps) (j:=j) (by simpa using h);rw[List.set_cons_succ,jC,jC];show M.many (ps.set j s') f+(if s.Frame=f then 1 else 0)+(if(ps.getD j default).Frame=f then 1 else 0)=_;omega
theorem xK{g:DGuest}{gs:List DGuest}{f:Int}:M.many (M.slots (g::gs)) f=M.many g.Pages f+M.many (M.slots gs) f:=by simp only[M.many,M.slots,List.flatMap_cons,List.countP_append]
theorem aKp{x:DGuest}{f:Int}:∀{gs:List DGuest} {i:Nat},i<gs.length->M.many (M.slots (gs.set i x)) f+M.many (gs.getD i default).Pages f=M.many (M.slots gs) f+M.many x.Pages f
 |[],i,h=>by simp at h
 |g::gs,0,_=>by rw[List.set_cons_zero,xK,xK];show M.many x.Pages f+M.many (M.slots gs) f+M.many g.Pages f=_;omega
 |g::gs,i+1,h=>by have ih:=aKp (x:=x) (f:=f) (gs:=gs) (i:=i) (by simpa using h);rw[List.set_cons_succ,xK,xK];show M.many g.Pages f+M.many (M.slots (gs.set i x)) f+M.many (gs.getD i default).Pages f=_;omega
section
variable {h : DHost} {g : Int} {x : DGuest}
def iK(x:DGuest)(p:Nat)(f:Int):DGuest:=⟨x.Live,x.C,x.Pages.set p ⟨f,true,(x.Pages.getD p default).Dirty⟩,x.In,x.Out⟩
theorem aGt(l:Live h g x){p f:Int}:M.inFrame h g p f=⟨over h.Words (f.toNat*8) 8 (M.pageWords h.Words (x.Pages.getD p.toNat default)),h.Guests.set g.toNat (iK x p.toNat f)⟩:=by unfold M.inFrame iK;rw[l.at_]
theorem bBg(l:Live h g x){p:Nat}(hp:p<8){f q:Int}:M.many (M.slots (h.Guests.set g.toNat (iK x p f))) q+(if(x.Pages.getD p default).Frame=q then 1 else 0)=M.many (M.slots h.Guests) q+(if f=q then 1 else 0):=by have:=l.ok.three;have:=l.lo;have:=l.hi;have hpl:=l.pages;have h1:=aKp (x:=iK x p f) (f:=q) (gs:=h.Guests) (i:=g.toNat) (by omega);have h2:=aKc (s':=⟨f,true,(x.Pages.getD p default).Dirty⟩) (f:=q) (ps:=x.Pages) (j:=p) (by omega);rw[l.at_]at h1;have e:(iK x p f).Pages=x.Pages.set p ⟨f,true,(x.Pages.getD p default).Dirty⟩:=rfl;rw[e]at h1;simp only at h2;omega
theorem bJj{ws ys:List Int}{o:Nat}(hw:M.wordsOk ws=true)(hy:M.wordsOk ys=true)(hl:ys.length=8)(ho:o+8<=ws.length):M.wordsOk (over ws o 8 ys)=true:=by rw[oP]at*;intro a ha;rw[nA ho]at ha;rw[uS hl ho];by_cases h1:a<o;{rw[if_pos h1];exact hw a ha};{by_cases h2:a<o+8;{rw[if_neg h1,if_pos h2];exact hy _ (by omega)};{rw[if_neg h1,if_neg h2];exact hw a ha}}
theorem aXw(l:Live h g x){p:Nat}(hp:p<8):M.wordsOk (M.pageWords h.Words (x.Pages.getD p default))=true:=by have hs:=aZ l hp;have hlw:=l.ok.len;rw[oP];intro a ha;rw[jZ hlw hs]at ha;rw[kF hs ha];by_cases q:(x.Pages.getD p default).Frame<0;{rw[if_pos q];exact M.inR_iff.2 ⟨by omega,by omega⟩};{rw[if_neg q];exact oP.1 l.ok.words _ (by omega)}
theorem aPa(l:Live h g x){p f:Int}(p0:0<=p)(p1:p<=7)(f0:0<=f)(f1:f<20)(hm:M.many (M.slots h.Guests) f=if(x.Pages.getD p.toNat default).Frame=f then 1 else 0):HOk (M.inFrame h g p f):=by have h3:=l.ok.three;have:=l.lo;have:=l.hi;have hpl:=l.pages;have hlw:=l.ok.len;have hs:=aZ l (p:=p.toNat) (by omega);rw[aGt l];refine⟨by rw[nA (by omega),hlw],bJj l.ok.words (aXw l (by omega)) (jZ hlw hs) (by omega),by rw[lS];exact h3,?_,?_⟩;{rw[List.all_eq_true];intro y hy;rcases List.mem_or_eq_of_mem_set hy with hy|rfl;{exact List.all_eq_true.1 l.ok.all y hy};{unfold M.guestOk iK;simp only;rw[l.live,cTq];simp only[bA,decide_eq_true_eq];refine⟨⟨⟨l.core,by rw[lS];exact hpl,?_⟩,l.inn⟩,l.out⟩;rw[List.all_eq_true];intro s hs;rcases List.mem_or_eq_of_mem_set hs with hs|rfl;{exact List.all_eq_true.1 l.slots s hs};{unfold M.slotOk;simp only;rw[dF (by omega),cFq,dT f0,dT f1];rfl}}};{have ha:=l.ok.alone;simp only[M.alone,List.all_eq_true,Bool.or_eq_true,Bool.not_eq_true',decide_eq_true_eq]at ha ⊢;intro s hsm;(cases hsw:s.Write with|false=>exact .inl rfl|true=>right;have hk:=bBg l (p:=p.toNat) (by omega) (f:=f) (q:=s.Frame);by_cases e:f=s.Frame;{rw[e]at hm;rw[e]at hk;rw[hm]at hk;simp only[if_true]at hk;rw[e];omega};{rw[if_neg e]at hk;have hold:s∈M.slots h.Guests:=(by obtain⟨y,hy,hs2⟩:=List.mem_flatMap.1 hsm;rcases List.mem_or_eq_of_mem_set hy with hy|rfl;{exact List.mem_flatMap.2 ⟨y,hy,hs2⟩};{rcases List.mem_or_eq_of_mem_set (show s∈x.Pages.set p.toNat ⟨f,true,_⟩from hs2)with hs3|rfl;{exact List.mem_flatMap.2 ⟨x,by rw[<-l.at_];exact cM (by omega),hs3⟩};{exact absurd rfl e}});have:=(ha s hold).resolve_left (by rw[hsw];simp);omega})}
theorem aNi(l:Live h g x){p f:Int}{k:Nat}(hk:k<3):(M.inFrame h g p f).Guests.getD k default=if(k:Int)=g then iK x p.toNat f else h.Guests.getD k default:=by have h3:=l.ok.three;have:=l.lo;have:=l.hi;rw[aGt l];show(h.Guests.set g.toNat _).getD k default=_;by_cases e:(k:Int)=g;{rw[if_pos e,show k=g.toNat by omega,aW (by rw[lS];omega),List.getElem_set_self]};{rw[if_neg e,aW (by rw[lS];omega),List.getElem_set_ne (by omega),<-aW]}
theorem aEw (hs:SmallH h) (l:Live h g x) {p f:Int} (p0:0<=p) (p1:p<=7) (f0:0<=f) (f1:f<20) (hok:HOk (M.inFrame h g p f))
 (hm:(x.Pages.getD p.toNat default).Frame=f\/M.many (M.slots h.Guests) f=0) {k:Nat} (hk:k<3):M.hostView (M.inFrame h g p f) (k:Int)=M.hostView h (k:Int):=by
 have h3:=l.ok.three;have:=l.lo;have:=l.hi;have hpl:=l.pages;have hlw:=l.ok.len;have hsl:=aZ l (p:=p.toNat) (by omega);have hpw:=jZ (ws:=h.Words) hlw hsl;have hgk:=aNi l (p:=p) (f:=f) hk;have hlive:((M.inFrame h g p f).Guests.getD k default).Live=(h.Guests.getD k default).Live:=(by rw[hgk];by_cases e:(k:Int)=g;{have hx:h.Guests.getD k default=x:=(by have:=l.at_;rwa[show g.toNat=k by omega]at this);rw[if_pos e,hx];rfl};{rw[if_neg e]});have e1:M.there (M.inFrame h g p f) (k:Int)=M.there h (k:Int):=(by unfold M.there;rw[fC.2 hok,fC.2 l.ok,iT,hlive]);unfold M.hostView;rw[e1,iT,hgk];cases ht:M.there h (k:Int)with
 |false=>rfl
 |true=>
  have lk:=bM hs ht;rw[iT]at lk;rw[aGt l];have wd:∀{t:DSlot} {b:Nat},b<8->-1<=t.Frame->t.Frame<20->(t.Frame≠f\/(x.Pages.getD p.toNat default).Frame=f)->0<=t.Frame->(over h.Words (f.toNat*8) 8 (M.pageWords h.Words (x.Pages.getD p.toNat default))).getD (t.Frame.toNat*8+b) default=h.Words.getD (t.Frame.toNat*8+b) default:=(by intro t b hb t0 t1 tf tn;rw[uS hpw (by omega)];by_cases q1:t.Frame.toNat*8+b<f.toNat*8;{rw[if_pos q1]};{by_cases q2:t.Frame.toNat*8+b<f.toNat*8+8;{have q3:t.Frame=f:=(by omega);have q4:=tf.resolve_left (λhn=>hn q3);rw[if_neg q1,if_pos q2,kF hsl (by omega),if_neg (by omega),q4];congr 1;omega};{rw[if_neg q1,if_neg q2]}});have old:∀{y:DGuest} {a:Nat},Live h (k:Int) y->a<64->(y.Pages.getD (a/8) default).Frame≠f\/(x.Pages.getD p.toNat default).Frame=f:=(by intro y a ly ha;rcases hm with hm|hm;{exact .inr hm};{left;intro e;have:=aJt ly (p:=a/8) (by omega);rw[e,hm]at this;omega});by_cases e:(k:Int)=g
  · rw[if_pos e]
    have hx:h.Guests.getD k default=x:=(by have:=l.at_;rwa[show g.toNat=k by omega]at this);rw[hx]at lk ⊢
    have:M.mem (over h.Words (f.toNat*8) 8 (M.pageWords h.Words (x.Pages.getD p.toNat default))) (iK x p.toNat f).Pages=M.mem h.Words x.Pages:=by
     refine gP dE dE λa ha=>?_;rw[eU ha,eU ha];have hr:=aZ l (p:=a/8) (by omega);unfold M.word;by_cases q:a/8=p.toNat
     · have eg:(iK x p.toNat f).Pages.getD (a/8) default=⟨f,true,(x.Pages.getD p.toNat default).Dirty⟩:=by
        rw[q];show(x.Pages.set p.toNat _).getD p.toNat default=_;rw[aW (by rw[lS];omega),List.getElem_set_self]
       rw[eg,q];simp only;rw[if_neg (by omega),uS hpw (by omega),if_neg (by omega),if_pos (by omega),show f.toNat*8+a%8-f.toNat*8=a%8 by omega,kF hsl (by omega)]
     · have eg:(iK x p.toNat f).Pages.getD (a/8) default=x.Pages.getD (a/8) default:=by
        show(x.Pages.set p.toNat _).getD (a/8) default=_;rw[aW (by rw[lS];omega),List.getElem_set_ne (by omega),<-aW]
       rw[eg];split;{rfl};{exact wd (t:=x.Pages.getD (a/8) default) (by omega) hr.1 hr.2 (old lk ha) (by omega)}
    show(bif true then((⟨x.C,M.mem _ (iK x p.toNat f).Pages,x.In,x.Out⟩:DBare),true)else _)=_;rw[this]
  {rw[if_neg e];have:M.mem (over h.Words (f.toNat*8) 8 (M.pageWords h.Words (x.Pages.getD p.toNat default))) (h.Guests.getD k default).Pages=M.mem h.Words (h.Guests.getD k default).Pages:=(by refine gP dE dE λa ha=>?_;rw[eU ha,eU ha];have hr:=aZ lk (p:=a/8) (by omega);unfold M.word;split;{rfl};{exact wd (t:=(h.Guests.getD k default).Pages.getD (a/8) default) (by omega) hr.1 hr.2 (old lk ha) (by omega)});show(bif true then((⟨(h.Guests.getD k default).C,M.mem _ (h.Guests.getD k default).Pages,(h.Guests.getD k default).In,(h.Guests.getD k default).Out⟩:DBare),true)else _)=_;rw[this]}
end
def enc(e:DEntry):Int:=8*e.Page+(bif e.There then 1 else 0)+(bif e.Write then 2 else 0)+(bif e.User then 4 else 0)
structure Rdr (m : Int) (r : Dl20Rd) : Prop where
 b:∀x∈r.b,0<=x/\x<=255
 p0:0<=r.p
 p1:r.p<=m
theorem Rdr.up{m n:Int}{r:Dl20Rd}(h:Rdr m r)(hn:m<=n):Rdr n r:=⟨h.b,h.p0,Int.le_trans h.p1 hn⟩
namespace M
def insOk(x:DIns):Bool:=inR 0 15 x.Op&&inR 0 3 x.A&&inR 0 63 x.N
end M
theorem bGc(x:DIns):wL x=some (M.insOk x):=by unfold wL;rw[rC,rC,rC];simp only[oB,M.insOk];cases M.inR 0 15 x.Op<;>cases M.inR 0 3 x.A<;>cases M.inR 0 63 x.N<;>rfl
structure Tiny (b : DBare) : Prop where
 regs:b.C.Regs.length<=4
 mem:b.Mem.length<=64
 i:b.In.length<=31
 o:b.Out.length<=31
theorem Tiny.small{b:DBare}(h:Tiny b):SmallB b:=⟨⟨by have:=h.regs;omega⟩,by have:=h.mem;omega,by have:=h.i;omega,by have:=h.o;omega⟩
structure LG (g : DGuest) : Prop where
 small:SmallG g
 pages:g.Live=true->g.Pages.length=8
structure LH (gs : List DGuest) : Prop where
 three:gs.length=3
 all:∀g∈gs,LG g
theorem LH.set{gs:List DGuest}{i:Nat}{x:DGuest}(h:LH gs)(hx:LG x):LH (gs.set i x):=by refine⟨by rw[lS];exact h.three,λg hg=>?_⟩;rcases List.mem_or_eq_of_mem_set hg with hg|rfl;{exact h.all g hg};{exact hx}
theorem LH.get{gs:List DGuest}(h:LH gs){i:Nat}(hi:i<3):LG (gs.getD i default):=h.all _ (cM (by rw[h.three];exact hi))
theorem LH.host{gs:List DGuest}{ws:List Int}(h:LH gs)(hw:ws.length=160):SmallH ⟨ws,gs⟩:=⟨by simp only[hw];omega,by simp only[h.three];omega,λg hg=>(h.all g hg).small⟩
structure FG (gs : List DGuest) : Prop where
 three:gs.length=3
 all:∀g∈gs,SmallG g/\g.Pages.length<=8
theorem FG.get{gs:List DGuest}(h:FG gs){i:Nat}(hi:i<3):SmallG (gs.getD i default)/\(gs.getD i default).Pages.length<=8:=h.all _ (cM (by rw[h.three];exact hi))
theorem FG.set{gs:List DGuest}{i:Nat}{x:DGuest}(h:FG gs)(hx:SmallG x/\x.Pages.length<=8):FG (gs.set i x):=by refine⟨by rw[lS];exact h.three,λg hg=>?_⟩;rcases List.mem_or_eq_of_mem_set hg with hg|rfl;{exact h.all g hg};{exact hx}
theorem FG.host{gs:List DGuest}{ws:List Int}(h:FG gs)(hw:ws.length<=1048576):SmallH ⟨ws,gs⟩:=⟨hw,by simp only[h.three];omega,λg hg=>(h.all g hg).1⟩
theorem aQx{h:DHost}{g p:Int}{x:DGuest}(l:Live h g x)(p0:0<=p)(p1:p<=7)(h2:(M.inFree h g p).2=true):∃f,0<=f/\f<20/\M.many (M.slots h.Guests) f=0/\M.inFree h g p=(M.inFrame h g p f,true):=by unfold M.inFree at h2 ⊢;by_cases e:(M.free (M.slots h.Guests)).length=0;{rw[dT e]at h2;cases h2};{have hf:=aKz (ss:=M.slots h.Guests) (i:=0) (by omega);exact⟨_,hf.1,hf.2,bOb (by omega),by rw[dF e];rfl⟩}
theorem aGy{h:DHost}{g f:Int}{x:DGuest}(l:Live h g x){p:Nat}(hp:p<8)(hm:M.many (M.slots h.Guests) f=0):(x.Pages.getD p default).Frame≠f:=by intro e;have:=aJt l hp;rw[e,hm]at this;omega
theorem aSt{h:DHost}{g p:Int}(hs:SmallH h)(h2:(M.hostFill h g p).2=true):∃x,Live h g x/\0<=p/\p<=7/\
 ((M.hostFill h g p=(h,true)/\(x.Pages.getD p.toNat default).Frame≠-1)\/∃f,0<=f/\f<20/\M.many (M.slots h.Guests) f=0/\M.hostFill h g p=(M.inFrame h g p f,true)):=by
 unfold M.hostFill at h2 ⊢;(cases ht:M.there h g with|false=>rw[ht]at h2;cases h2|true=>have l:=bM hs ht;(cases hp:M.inR 0 7 p with|false=>rw[ht,hp]at h2;cases h2|true=>obtain⟨p0,p1⟩:=M.inR_iff.1 hp;rw[ht,hp,Bool.and_self,cTq]at h2;refine⟨_,l,p0,p1,?_⟩;rw[Bool.and_self,cTq];by_cases e:((h.Guests.getD g.toNat default).Pages.getD p.toNat default).Frame=-1;{rw[dT e,cTq]at h2 ⊢;exact .inr (aQx l p0 p1 h2)};{rw[dF e,cFq];exact .inl ⟨rfl,e⟩}))
theorem aRv{h:DHost}{g p f:Int}{x:DGuest}(l:Live h g x)(p0:0<=p)(p1:p<=7):(M.inFrame h g p f).Guests.getD g.toNat default=iK x p.toNat f/\(iK x p.toNat f).Pages.length=8/\(iK x p.toNat f).Pages.getD p.toNat default=⟨f,true,(x.Pages.getD p.toNat default).Dirty⟩:=by have:=l.lo;have:=l.hi;have hpl:=l.pages;have h1:=aNi l (p:=p) (f:=f) (k:=g.toNat) (by omega);rw[if_pos (by omega)]at h1;refine⟨h1,by unfold iK;rw[lS];exact hpl,?_⟩;show(x.Pages.set p.toNat _).getD p.toNat default=_;rw[aW (by rw[lS];omega),List.getElem_set_self]
theorem aRi{h:DHost}{g p:Int}(hs:SmallH h)(h2:(M.hostCopy h g p).2=true):∃x f,Live h g x/\0<=p/\p<=7/\0<=f/\f<20/\M.hostCopy h g p=(M.inFrame h g p f,true)/\
 (((x.Pages.getD p.toNat default).Frame=f/\M.many (M.slots h.Guests) f=1)\/M.many (M.slots h.Guests) f=0):=by
 unfold M.hostCopy at h2 ⊢;(cases ht:M.there h g with|false=>rw[ht]at h2;cases h2|true=>have l:=bM hs ht;(cases hp:M.inR 0 7 p with|false=>rw[ht,hp]at h2;cases h2|true=>obtain⟨p0,p1⟩:=M.inR_iff.1 hp;have hsl:=aZ l (p:=p.toNat) (by omega);rw[ht,hp,Bool.and_self,cTq]at h2;rw[Bool.and_self,cTq];by_cases e:((h.Guests.getD g.toNat default).Pages.getD p.toNat default).Frame=-1;{rw[dT e]at h2;cases h2};{rw[dF e,cFq]at h2 ⊢;by_cases q:M.many (M.slots h.Guests) ((h.Guests.getD g.toNat default).Pages.getD p.toNat default).Frame=1;{refine⟨_,_,l,p0,p1,by omega,hsl.2,by rw[dT q,cTq],.inl ⟨rfl,q⟩⟩};{rw[dF q,cFq]at h2 ⊢;obtain⟨f,f0,f1,hm,e2⟩:=aQx l p0 p1 h2;exact⟨_,f,l,p0,p1,f0,f1,e2,.inr hm⟩}}))
def one(f:Int)(t:DSlot):Int:=if t.Frame=f then 1 else 0
namespace M
def lets(e:DEntry)(user write:Bool):Bool:=e.There&&(e.Write||!write)&&(e.User||!user)
def walk(mem:List Int)(root addr:Int)(user write:Bool):Int:=
 bif memOk mem&&inR (-1) 7 root&&inR 0 63 addr then
  bif decide (root=-1)then addr else
   bif lets (dec (mem.getD (root*8+addr/8).toNat default)) user write then(dec (mem.getD (root*8+addr/8).toNat default)).Page*8+addr%8 else-1
 else-1
end M
theorem aMp{xs:List Int}(h:M.memOk xs=true):M.wordsOk xs=true:=(bA _ _▸h).2
theorem bIl(mem:List Int)(root addr:Int)(user write:Bool):M.walk mem root addr user write=-1\/
 (M.memOk mem=true/\(-1<=root/\root<=7)/\(0<=addr/\addr<=63)/\0<=M.walk mem root addr user write/\M.walk mem root addr user write<64/\M.walk mem root addr false false=M.walk mem root addr user write/\M.walk mem root addr user false=M.walk mem root addr user write/\M.walk mem root (addr-addr%8) user write=M.walk mem root addr user write-addr%8):=by
 by_cases hm:M.memOk mem=true
 · by_cases hr:M.inR (-1) 7 root=true
   · by_cases ha:M.inR 0 63 addr=true
     · have hr2:=M.inR_iff.1 hr
       have ha2:=M.inR_iff.1 ha;have hb:M.inR 0 63 (addr-addr%8)=true:=M.inR_iff.2 ⟨by omega,by omega⟩;by_cases h1:root=-1
       · have e:∀u w,M.walk mem root addr u w=addr:=λu w=>by simp only[M.walk,hm,hr,ha,dT h1,Bool.and_self,cTq]
         have e':∀u w,M.walk mem root (addr-addr%8) u w=addr-addr%8:=λu w=>by simp only[M.walk,hm,hr,hb,dT h1,Bool.and_self,cTq]
         rw[e,e,e,e'];exact .inr ⟨hm,hr2,ha2,by omega,by omega,rfl,rfl,rfl⟩
       · have e:∀u w,M.walk mem root addr u w=(bif M.lets (dec (mem.getD (root*8+addr/8).toNat default)) u w then(dec (mem.getD (root*8+addr/8).toNat default)).Page*8+addr%8 else-1):=λu w=>by
          simp only[M.walk,hm,hr,ha,dF h1,Bool.and_self,cTq,cFq]
         have e':∀u w,M.walk mem root (addr-addr%8) u w=(bif M.lets (dec (mem.getD (root*8+addr/8).toNat default)) u w then(dec (mem.getD (root*8+addr/8).toNat default)).Page*8 else-1):=λu w=>by simp only[M.walk,hm,hr,hb,dF h1,Bool.and_self,cTq,cFq];rw[show(addr-addr%8)/8=addr/8 by omega,show(addr-addr%8)%8=0 by omega];simp
         rw[e,e,e,e'];have hp:=aXp (mem.getD (root*8+addr/8).toNat default);generalize dec (mem.getD (root*8+addr/8).toNat default)=x at hp ⊢;(cases hx:M.lets x user write with|false=>exact .inl rfl|true=>have h2:M.lets x false false=true:=(by simp only[M.lets,bA,Bool.or_eq_true,bF,Bool.or_true,and_true]at hx ⊢;exact hx.1.1);have h3:M.lets x user false=true:=(by simp only[M.lets,bA,Bool.or_eq_true,bF,Bool.or_true,and_true]at hx ⊢;exact⟨hx.1.1,hx.2⟩);rw[h2,h3];simp only[cTq];exact .inr ⟨hm,hr2,ha2,by omega,by omega,by first|trivial|rfl,by first|trivial|rfl,by omega⟩)
     {exact .inl (by simp only[M.walk,Bool.eq_false_iff.2 ha,Bool.and_false,cFq])}
   {exact .inl (by simp only[M.walk,Bool.eq_false_iff.2 hr,Bool.and_false,Bool.false_and,cFq])}
 {exact .inl (by simp only[M.walk,Bool.eq_false_iff.2 hm,Bool.false_and,cFq])}
theorem aDl(mem:List Int)(root addr:Int)(user write:Bool)(h:¬M.walk mem root addr user write=-1):0<=M.walk mem root addr user write/\M.walk mem root addr user write<64:=by rcases bIl mem root addr user write with h1|⟨_,_,_,h2,h3,_⟩;{exact absurd h1 h};{exact⟨h2,h3⟩}
namespace M
def reg(c:DCore)(k:Int):Int:=c.Regs.getD k.toNat default
def trap(c:DCore)(src cause bad:Int):DCore:=⟨c.Regs,c.Vector,c.Root,c.Vector,src,c.User,cause,bad,c.Timer,c.Waits,false,false,c.Stopped⟩
def tick(c:DCore):DCore:=bif decide (c.Timer=0)then c else⟨c.Regs,c.Pc,c.Root,c.Vector,c.Saved,c.SavedUser,c.Cause,c.Bad,c.Timer-1,(bif decide (c.Timer-1=0)then true else c.Waits),c.User,c.On,c.Stopped⟩
def ins(w:Int):DIns:=⟨w/256,w/64%4,w%64⟩
def kern(op:Int):Bool:=decide (op=0)||inR 8 14 op
def at_(c:DCore)(pc:Int):DCore:=⟨c.Regs,pc,c.Root,c.Vector,c.Saved,c.SavedUser,c.Cause,c.Bad,c.Timer,c.Waits,c.User,c.On,c.Stopped⟩
def go(c:DCore):DCore:=at_ c ((c.Pc+1)%64)
def put(c:DCore)(a w:Int):DCore:=⟨c.Regs.set a.toNat w,c.Pc,c.Root,c.Vector,c.Saved,c.SavedUser,c.Cause,c.Bad,c.Timer,c.Waits,c.User,c.On,c.Stopped⟩
def with_(b:DBare)(c:DCore):DBare:=⟨c,b.Mem,b.In,b.Out⟩
def root(w:Int):Int:=bif decide (w%16<8)then w%16 else-1
def first(xs:List Int):Int:=xs.getD 0 default
def cin(b:DBare)(k:Int):Int:=bif decide (k=1)then b.C.Cause else bif decide (k=2)then b.C.Bad else bif decide (k=3)then b.C.Saved else first b.In
def rest(xs:List Int)(k:Int):List Int:=bif decide (k=0)then xs.drop 1 else xs
def kdo(b:DBare)(i:DIns):DBare:=
 bif decide (i.Op=0)then with_ b ⟨b.C.Regs,b.C.Pc,b.C.Root,b.C.Vector,b.C.Saved,b.C.SavedUser,b.C.Cause,b.C.Bad,b.C.Timer,b.C.Waits,b.C.User,b.C.On,true⟩
 else bif decide (i.Op=8)then with_ b (go ⟨b.C.Regs,b.C.Pc,root (reg b.C i.A),b.C.Vector,b.C.Saved,b.C.SavedUser,b.C.Cause,b.C.Bad,b.C.Timer,b.C.Waits,b.C.User,b.C.On,b.C.Stopped⟩)
 else bif decide (i.Op=9)then with_ b (go ⟨b.C.Regs,b.C.Pc,b.C.Root,reg b.C i.A%64,b.C.Saved,b.C.SavedUser,b.C.Cause,b.C.Bad,b.C.Timer,b.C.Waits,b.C.User,b.C.On,b.C.Stopped⟩)
 else bif decide (i.Op=10)then with_ b (go ⟨b.C.Regs,b.C.Pc,b.C.Root,b.C.Vector,b.C.Saved,b.C.SavedUser,b.C.Cause,b.C.Bad,reg b.C i.A,b.C.Waits,b.C.User,b.C.On,b.C.Stopped⟩)
 else bif decide (i.Op=11)then with_ b ⟨b.C.Regs,b.C.Saved,b.C.Root,b.C.Vector,b.C.Saved,b.C.SavedUser,b.C.Cause,b.C.Bad,b.C.Timer,b.C.Waits,b.C.SavedUser,true,b.C.Stopped⟩
 else bif decide (i.Op=12)then with_ b (go ⟨b.C.Regs,b.C.Pc,b.C.Root,b.C.Vector,b.C.Saved,b.C.SavedUser,b.C.Cause,b.C.Bad,b.C.Timer,b.C.Waits,b.C.User,decide (i.N%2=1),b.C.Stopped⟩)
 else bif decide (i.Op=13)then⟨go b.C,b.Mem,b.In,bif decide (b.Out.length<30)then b.Out++[reg b.C i.A]else b.Out⟩
 else⟨go (put b.C i.A (cin b (i.N%4))),b.Mem,rest b.In (i.N%4),b.Out⟩
def plain(c:DCore)(i:DIns):DCore:=
 bif decide (i.Op=1)then go (put c i.A i.N)
 else bif decide (i.Op=2)then go (put c i.A ((reg c i.A+reg c (i.N%4))%4096))
 else bif decide (i.Op=15)then go (put c i.A ((reg c i.A-reg c (i.N%4)+4096)%4096))
 else bif decide (i.Op=5)then at_ c i.N
 else bif decide (i.Op=6)then bif decide (reg c i.A=0)then go c else at_ c i.N
 else trap c ((c.Pc+1)%64) 1 0
def mdo(b:DBare)(i:DIns):DBare:=
 bif decide (walk b.Mem b.C.Root (reg b.C (i.N%4)%64) b.C.User (decide (i.Op=4))=-1)then with_ b (trap b.C b.C.Pc 2 (reg b.C (i.N%4)%64))
 else bif decide (i.Op=3)then with_ b (go (put b.C i.A (b.Mem.getD (walk b.Mem b.C.Root (reg b.C (i.N%4)%64) b.C.User false).toNat default)))
 else⟨go b.C,b.Mem.set (walk b.Mem b.C.Root (reg b.C (i.N%4)%64) b.C.User true).toNat (reg b.C i.A),b.In,b.Out⟩
def did(b:DBare)(i:DIns):DBare:=
 bif kern i.Op then bif b.C.User then with_ b (trap b.C b.C.Pc 3 0)else kdo b i
 else bif decide (i.Op=3)||decide (i.Op=4)then mdo b i else with_ b (plain b.C i)
def quiet(c:DCore):DCore:=⟨c.Regs,c.Pc,c.Root,c.Vector,c.Saved,c.SavedUser,c.Cause,c.Bad,c.Timer,false,c.User,c.On,c.Stopped⟩
def step(b:DBare):DBare:=
 bif b.C.Stopped then b
 else bif (tick b.C).Waits&&(tick b.C).On then with_ b (trap (quiet (tick b.C)) (tick b.C).Pc 4 0)
 else bif decide (walk b.Mem (tick b.C).Root (tick b.C).Pc (tick b.C).User false=-1)then with_ b (trap (tick b.C) (tick b.C).Pc 2 (tick b.C).Pc)
 else did (with_ b (tick b.C)) (ins (b.Mem.getD (walk b.Mem (tick b.C).Root (tick b.C).Pc (tick b.C).User false).toNat default))
end M
theorem bTg(x:DIns):vT x=some (M.insOk x):=by unfold vT;simp only[M.insOk,M.inR];rw[show(4:Int)=3+1 from rfl,show(64:Int)=63+1 from rfl,aXh,aXh];cases decide (0<=x.Op)<;>cases decide (0<=x.A)<;>cases decide (0<=x.N)<;>cases decide (x.Op<=15)<;>cases decide (x.A<=3)<;>cases decide (x.N<=63)<;>rfl
theorem aAz{k:Int}(h0:0<=k)(h1:k<=15):k=0\/k=1\/k=2\/k=3\/k=4\/k=5\/k=6\/k=7\/k=8\/k=9\/k=10\/k=11\/k=12\/k=13\/k=14\/k=15:=by omega
theorem aNh{x:DIns}(h:M.insOk x=true):lR x=some (M.kern x.Op):=by unfold lR;rw[bTg,h];obtain⟨op,a,n⟩:=x;simp only[M.insOk,bA,M.inR_iff]at h;rcases aAz h.1.1.1 h.1.1.2 with e|e|e|e|e|e|e|e|e|e|e|e|e|e|e|e<;>subst e<;>rfl
theorem aCz{x:DIns}(h:M.insOk x=true):cW x=some (M.kern x.Op):=by unfold cW;rw[bGc,h,rC];simp only[oB,cTq,M.kern];cases decide (x.Op=0)<;>rfl
theorem aVe{w:Int}(h0:0<=w)(h1:w<=4095):lI w=some (M.ins w):=by unfold lI;rw[aGr,show M.wordOk w=true from M.inR_iff.2 ⟨h0,h1⟩];simp only[oB,bT,cFq];rw[(fR h0 h1 (k:=256) (by omega)).1,(fR h0 h1 (k:=64) (by omega)).1,iM (fR h0 h1 (k:=64) (by omega)).2,iM h0];rfl
theorem aVd{w:Int}(h0:0<=w)(h1:w<=4095):oL w=some (M.ins w):=by unfold oL;rw[xG,show M.wordOk w=true from M.inR_iff.2 ⟨h0,h1⟩];simp only[oB,bT,cFq];rw[(fR h0 h1 (k:=256) (by omega)).1,(fR h0 h1 (k:=64) (by omega)).1,iM (fR h0 h1 (k:=64) (by omega)).2,iM h0];rfl
theorem aIk{w:Int}(h0:0<=w)(h1:w<=4095):M.insOk (M.ins w)=true:=by simp only[M.insOk,M.ins,bA,M.inR_iff];omega
def M.insKernel(x:DIns):Bool:=M.insOk x&&M.kern x.Op
theorem bCp(x:DIns):cW x=some (M.insKernel x):=by
 (cases h:M.insOk x with|true=>rw[aCz h];unfold M.insKernel;rw[h];rfl|false=>unfold cW M.insKernel;rw[bGc,h];rfl)
structure BOk (b : DBare) : Prop where
 regs:b.C.Regs.length=4
 words:M.wordsOk b.C.Regs=true
 pc:0<=b.C.Pc/\b.C.Pc<=63
 vec:0<=b.C.Vector/\b.C.Vector<=63
 sav:0<=b.C.Saved/\b.C.Saved<=63
 bad:0<=b.C.Bad/\b.C.Bad<=63
 root:-1<=b.C.Root/\b.C.Root<=7
 cause:0<=b.C.Cause/\b.C.Cause<=4
 timer:0<=b.C.Timer/\b.C.Timer<=4095
 mem:M.memOk b.Mem=true
 inn:b.In.length<=30
 inw:M.wordsOk b.In=true
 out:b.Out.length<=30
 outw:M.wordsOk b.Out=true
theorem bEl{b:DBare}:M.bareOk b=true↔BOk b:=by
 simp only[M.bareOk,M.coreOk,M.rowOk,M.wordOk,bA,decide_eq_true_eq,M.inR_iff];constructor
 · rintro⟨⟨⟨⟨⟨⟨⟨⟨a1,a2⟩,⟨⟨a3,a4⟩,a5⟩,a6⟩,a7⟩,a8⟩,a9⟩,a10⟩,a11,a12⟩,a13,a14⟩
   exact⟨a1,a2,a3,a4,a5,a6,a7,a8,a9,a10,a11,a12,a13,a14⟩
 · rintro⟨a1,a2,a3,a4,a5,a6,a7,a8,a9,a10,a11,a12,a13,a14⟩
   exact⟨⟨⟨⟨⟨⟨⟨⟨a1,a2⟩,⟨⟨a3,a4⟩,a5⟩,a6⟩,a7⟩,a8⟩,a9⟩,a10⟩,a11,a12⟩,a13,a14⟩
theorem BOk.len{b:DBare}(h:BOk b):b.Mem.length=64:=bMr h.mem
theorem BOk.reg{b:DBare}(h:BOk b){k:Int}(h0:0<=k)(h1:k<4):0<=M.reg b.C k/\M.reg b.C k<=4095:=iU h.words (by have:=h.regs;omega)
structure KOk (b : DBare) : Prop where
 regs:b.C.Regs.length=4
 words:M.wordsOk b.C.Regs=true
 pc:0<=b.C.Pc/\b.C.Pc<=63
 vec:0<=b.C.Vector/\b.C.Vector<=63
 sav:0<=b.C.Saved/\b.C.Saved<=63
 bad:0<=b.C.Bad/\b.C.Bad<=63
 root:-1<=b.C.Root/\b.C.Root<=7
 cause:0<=b.C.Cause/\b.C.Cause<=4
 timer:0<=b.C.Timer/\b.C.Timer<=4095
 inn:b.In.length<=30
 inw:M.wordsOk b.In=true
 out:b.Out.length<=30
 outw:M.wordsOk b.Out=true
theorem BOk.k{b:DBare}(h:BOk b):KOk b:=⟨h.regs,h.words,h.pc,h.vec,h.sav,h.bad,h.root,h.cause,h.timer,h.inn,h.inw,h.out,h.outw⟩
theorem KOk.reg{b:DBare}(h:KOk b){k:Int}(h0:0<=k)(h1:k<4):0<=M.reg b.C k/\M.reg b.C k<=4095:=iU h.words (by have:=h.regs;omega)
theorem KOk.to{b b':DBare}(h:KOk b)(h1:b'.C=b.C)(h2:b'.In=b.In)(h3:b'.Out=b.Out):KOk b':=by obtain⟨c,m,i,o⟩:=b';simp only at h1 h2 h3;subst h1 h2 h3;exact⟨h.regs,h.words,h.pc,h.vec,h.sav,h.bad,h.root,h.cause,h.timer,h.inn,h.inw,h.out,h.outw⟩
section
variable {b : DBare} {op a n : Int}
theorem KOk.gA(hb:KOk b)(h0:0<=a)(h1:a<=3):0<=a/\a<((b.C.Regs.length:Nat):Int):=by have:=hb.regs;omega
theorem aFn(h0:0<=n):Int.tmod n 4=n%4:=iM h0
theorem aMu(hb:KOk b)(h0:0<=n):cV b.C ⟨op,a,n⟩=some (M.reg b.C (n%4)%64):=by unfold cV;simp only[aFn h0];rw[aA (hb.gA (by omega) (by omega)),show b.C.Regs.getD (n%4).toNat default=M.reg b.C (n%4)from rfl,iM (hb.reg (by omega) (by omega)).1]
end
theorem aZq{c:DCore}(h0:0<=c.Timer)(h1:c.Timer<=4095):gX c=some (M.tick c):=by unfold gX M.tick aBe;rw[aF (z:=c.Timer-1) (by omega) (by omega)];cases decide (c.Timer=0)<;>cases decide (c.Timer-1=0)<;>rfl
theorem bAk{c:DCore}(h0:0<=c.Timer)(h1:c.Timer<=4095):jW c=some (bif (M.tick c).Waits&&(M.tick c).On then(M.trap (M.quiet (M.tick c)) (M.tick c).Pc 4 0,true)else(M.tick c,false)):=by unfold jW yF yI;obtain⟨r,pc,ro,v,s,su,ca,ba,t,w,u,o,st⟩:=c;simp only at h0 h1;rw[aF (z:=t-1) (by omega) (by omega)];by_cases e:t=0;{subst e;simp only[M.tick,decide_true,cTq,Int.lt_irrefl,decide_false,cFq,oB,JO.run];cases w<;>cases o<;>rfl};{simp only[M.tick,dF e,dT (show 0<t by omega),cTq,cFq];by_cases e1:t-1=0;{simp only[dT e1,cTq,oB,JO.run];cases o<;>rfl};{simp only[dF e1,cFq,oB,JO.run];cases w<;>cases o<;>rfl}}
theorem aCp(c:DCore):eS c=some (c.Waits&&c.On):=by unfold eS;cases c.Waits<;>rfl
namespace M
def cAo:DCore:=⟨[],0,0,0,0,false,0,0,0,false,false,false,false⟩
def zero:DBare:=⟨cAo,[],[],[]⟩
end M
section
variable {b : DBare} {op a n : Int}
theorem BOk.tick(hb:BOk b):BOk (M.with_ b (M.tick b.C)):=by have ht:=hb.timer;unfold M.tick;by_cases e:b.C.Timer=0;{rw[dT e];exact⟨hb.regs,hb.words,hb.pc,hb.vec,hb.sav,hb.bad,hb.root,hb.cause,hb.timer,hb.mem,hb.inn,hb.inw,hb.out,hb.outw⟩};{rw[dF e];exact⟨hb.regs,hb.words,hb.pc,hb.vec,hb.sav,hb.bad,hb.root,hb.cause,⟨by show 0<=b.C.Timer-1;omega,by show b.C.Timer-1<=4095;omega⟩,hb.mem,hb.inn,hb.inw,hb.out,hb.outw⟩}
theorem aBo(hb:BOk b){z:Int}(h0:0<=z)(h1:z<64):0<=b.Mem.getD z.toNat default/\b.Mem.getD z.toNat default<=4095:=iU (aMp hb.mem) (by have:=hb.len;omega)
theorem bGt(b:DBare)(i:DIns):(M.kdo b i).Mem=b.Mem:=by unfold M.kdo;cases decide (i.Op=0)<;>cases decide (i.Op=8)<;>cases decide (i.Op=9)<;>cases decide (i.Op=10)<;>cases decide (i.Op=11)<;>cases decide (i.Op=12)<;>cases decide (i.Op=13)<;>rfl
theorem BOk.trap(hb:BOk b){src cause bad:Int}(h1:0<=src/\src<=63)(h2:0<=cause/\cause<=4)(h3:0<=bad/\bad<=63):BOk (M.with_ b (M.trap b.C src cause bad)):=⟨hb.regs,hb.words,hb.vec,hb.vec,h1,h3,hb.root,h2,hb.timer,hb.mem,hb.inn,hb.inw,hb.out,hb.outw⟩
theorem BOk.at_(hb:BOk b){pc:Int}(h:0<=pc/\pc<=63):BOk (M.with_ b (M.at_ b.C pc)):=⟨hb.regs,hb.words,h,hb.vec,hb.sav,hb.bad,hb.root,hb.cause,hb.timer,hb.mem,hb.inn,hb.inw,hb.out,hb.outw⟩
theorem BOk.go(hb:BOk b):BOk (M.with_ b (M.go b.C)):=hb.at_ (by omega)
theorem BOk.put(hb:BOk b){w:Int}(h:0<=w/\w<=4095):BOk (M.with_ b (M.put b.C a w)):=⟨by show(b.C.Regs.set _ _).length=4;rw[lS];exact hb.regs,aCx hb.words h.1 h.2,hb.pc,hb.vec,hb.sav,hb.bad,hb.root,hb.cause,hb.timer,hb.mem,hb.inn,hb.inw,hb.out,hb.outw⟩
theorem bDe{xs:List Int}{w:Int}(h:M.wordsOk xs=true)(hw:0<=w/\w<=4095):M.wordsOk (xs++[w])=true:=by refine List.all_eq_true.2 λx hx=>?_;rcases List.mem_append.1 hx with h1|h1;{exact List.all_eq_true.1 h x h1};{rw[List.mem_singleton.1 h1];exact M.inR_iff.2 hw}
theorem aYh{xs:List Int}(h:M.wordsOk xs=true):M.wordsOk (xs.drop 1)=true:=List.all_eq_true.2 λx hx=>List.all_eq_true.1 h x (List.mem_of_mem_drop hx)
theorem bSa{xs:List Int}(h:M.wordsOk xs=true):0<=M.first xs/\M.first xs<=4095:=by
 (cases xs with|nil=>exact⟨by decide,by decide⟩|cons x xs=>exact M.inR_iff.1 (List.all_eq_true.1 h x (List.mem_cons_self ..)))
theorem bVa(hb:BOk b){k:Int}:0<=M.cin b k/\M.cin b k<=4095:=by have h1:=hb.cause;have h2:=hb.bad;have h3:=hb.sav;have h4:=bSa hb.inw;unfold M.cin;cases decide (k=1)<;>cases decide (k=2)<;>cases decide (k=3)<;>simp only[cTq,cFq]<;>omega
theorem bWh(hb:BOk b)(a0:0<=a)(a1:a<=3):BOk (M.kdo b ⟨op,a,n⟩):=by
 have g:=hb.reg a0 (by omega);unfold M.kdo;simp only;cases decide (op=0)with
 |true=>exact⟨hb.regs,hb.words,hb.pc,hb.vec,hb.sav,hb.bad,hb.root,hb.cause,hb.timer,hb.mem,hb.inn,hb.inw,hb.out,hb.outw⟩
 |false=>
 cases decide (op=8)with
 |true=>have hr:-1<=M.root (M.reg b.C a)/\M.root (M.reg b.C a)<=7:=(by unfold M.root;by_cases e:M.reg b.C a%16<8;{rw[dT e,cTq];omega};{rw[dF e,cFq];omega});exact BOk.go (b:=M.with_ b ⟨b.C.Regs,b.C.Pc,M.root (M.reg b.C a),b.C.Vector,b.C.Saved,b.C.SavedUser,b.C.Cause,b.C.Bad,b.C.Timer,b.C.Waits,b.C.User,b.C.On,b.C.Stopped⟩) ⟨hb.regs,hb.words,hb.pc,hb.vec,hb.sav,hb.bad,hr,hb.cause,hb.timer,hb.mem,hb.inn,hb.inw,hb.out,hb.outw⟩
 |false=>
 cases decide (op=9)with
 |true=>exact BOk.go (b:=M.with_ b ⟨b.C.Regs,b.C.Pc,b.C.Root,M.reg b.C a%64,b.C.Saved,b.C.SavedUser,b.C.Cause,b.C.Bad,b.C.Timer,b.C.Waits,b.C.User,b.C.On,b.C.Stopped⟩) ⟨hb.regs,hb.words,hb.pc,by show 0<=M.reg b.C a%64/\M.reg b.C a%64<=63;omega,hb.sav,hb.bad,hb.root,hb.cause,hb.timer,hb.mem,hb.inn,hb.inw,hb.out,hb.outw⟩
 |false=>
 cases decide (op=10)with
 |true=>exact BOk.go (b:=M.with_ b ⟨b.C.Regs,b.C.Pc,b.C.Root,b.C.Vector,b.C.Saved,b.C.SavedUser,b.C.Cause,b.C.Bad,M.reg b.C a,b.C.Waits,b.C.User,b.C.On,b.C.Stopped⟩) ⟨hb.regs,hb.words,hb.pc,hb.vec,hb.sav,hb.bad,hb.root,hb.cause,g,hb.mem,hb.inn,hb.inw,hb.out,hb.outw⟩
 |false=>
 cases decide (op=11)with
 |true=>exact⟨hb.regs,hb.words,hb.sav,hb.vec,hb.sav,hb.bad,hb.root,hb.cause,hb.timer,hb.mem,hb.inn,hb.inw,hb.out,hb.outw⟩
 |false=>
 cases decide (op=12)with
 |true=>exact BOk.go (b:=M.with_ b ⟨b.C.Regs,b.C.Pc,b.C.Root,b.C.Vector,b.C.Saved,b.C.SavedUser,b.C.Cause,b.C.Bad,b.C.Timer,b.C.Waits,b.C.User,decide (n%2=1),b.C.Stopped⟩) ⟨hb.regs,hb.words,hb.pc,hb.vec,hb.sav,hb.bad,hb.root,hb.cause,hb.timer,hb.mem,hb.inn,hb.inw,hb.out,hb.outw⟩
 |false=>
 have h:=hb.go;(cases decide (op=13)with|true=>simp only[cTq,cFq];by_cases e:b.Out.length<30;{rw[dT e];exact⟨h.regs,h.words,h.pc,h.vec,h.sav,h.bad,h.root,h.cause,h.timer,h.mem,h.inn,h.inw,by show(b.Out++[_]).length<=30;simp only[List.length_append,List.length_cons,List.length_nil];omega,bDe hb.outw g⟩};{rw[dF e];exact h}|false=>simp only[cFq];have h:=(hb.put (a:=a) (bVa hb (k:=n%4))).go;refine⟨h.regs,h.words,h.pc,h.vec,h.sav,h.bad,h.root,h.cause,h.timer,h.mem,?_,?_,h.out,h.outw⟩;{show(M.rest b.In (n%4)).length<=30;have:=hb.inn;unfold M.rest;cases decide (n%4=0)<;>simp only[cTq,cFq,List.length_drop]<;>omega};{show M.wordsOk (M.rest b.In (n%4))=true;unfold M.rest;cases decide (n%4=0);{exact hb.inw};{exact aYh hb.inw}})
theorem bOy(hb:BOk b)(a0:0<=a)(a1:a<=3)(n0:0<=n)(n1:n<=63):BOk (M.with_ b (M.plain b.C ⟨op,a,n⟩)):=by
 have hp:=hb.pc;unfold M.plain;simp only;cases decide (op=1)with
 |true=>exact(hb.put (a:=a) (w:=n) (by omega)).go
 |false=>
 cases decide (op=2)with
 |true=>exact(hb.put (a:=a) (w:=(M.reg b.C a+M.reg b.C (n%4))%4096) (by omega)).go
 |false=>
 cases decide (op=15)with
 |true=>exact(hb.put (a:=a) (w:=(M.reg b.C a-M.reg b.C (n%4)+4096)%4096) (by omega)).go
 |false=>
 cases decide (op=5)with
 |true=>exact hb.at_ ⟨n0,n1⟩
 |false=>
 (cases decide (op=6)with|true=>(cases decide (M.reg b.C a=0)with|true=>exact hb.go|false=>exact hb.at_ ⟨n0,n1⟩)|false=>exact hb.trap (src:=(b.C.Pc+1)%64) (cause:=1) (bad:=0) (by omega) (by omega) (by omega))
theorem bKv(hb:BOk b)(a0:0<=a)(a1:a<=3)(n0:0<=n)(ho:op=3\/op=4):BOk (M.mdo b ⟨op,a,n⟩):=by have g:=hb.reg a0 (by omega);unfold M.mdo;simp only;by_cases h:M.walk b.Mem b.C.Root (M.reg b.C (n%4)%64) b.C.User (decide (op=4))=-1;{rw[dT h];exact hb.trap (src:=b.C.Pc) (cause:=2) (bad:=M.reg b.C (n%4)%64) hb.pc (by omega) (by omega)};{have hw:=aDl _ _ _ _ _ h;rw[dF h];rcases ho with rfl|rfl;{simp only[Int.reduceEq,decide_false]at hw;exact(hb.put (a:=a) (aBo hb hw.1 hw.2)).go};{have h2:=hb.go;refine⟨h2.regs,h2.words,h2.pc,h2.vec,h2.sav,h2.bad,h2.root,h2.cause,h2.timer,?_,h2.inn,h2.inw,h2.out,h2.outw⟩;show M.memOk (b.Mem.set _ _)=true;simp only[M.memOk,lS,hb.len,decide_true,Bool.true_and];exact aCx (aMp hb.mem) g.1 g.2}}
theorem bXy(hb:BOk b){i:DIns}(hi:M.insOk i=true):BOk (M.did b i):=by obtain⟨op,a,n⟩:=i;simp only[M.insOk,bA,M.inR_iff]at hi;obtain⟨⟨⟨o0,o1⟩,a0,a1⟩,n0,n1⟩:=hi;unfold M.did;simp only;(cases M.kern op with|true=>(cases b.C.User with|true=>exact hb.trap (src:=b.C.Pc) (cause:=3) (bad:=0) hb.pc (by omega) (by omega)|false=>exact bWh hb a0 a1)|false=>by_cases h3:op=3;{rw[dT h3];exact bKv hb a0 a1 n0 (.inl h3)};{by_cases h4:op=4;{rw[dT h4,Bool.or_true];exact bKv hb a0 a1 n0 (.inr h4)};{rw[dF h3,dF h4];exact bOy hb a0 a1 n0 n1}})
theorem aUy(hb:BOk b):BOk (M.step b):=by
 have ht:=hb.tick;unfold M.step;cases b.C.Stopped with
 |true=>exact hb
 |false=>
 cases(M.tick b.C).Waits&&(M.tick b.C).On with
 |true=>have hq:BOk (M.with_ b (M.quiet (M.tick b.C))):=⟨ht.regs,ht.words,ht.pc,ht.vec,ht.sav,ht.bad,ht.root,ht.cause,ht.timer,ht.mem,ht.inn,ht.inw,ht.out,ht.outw⟩;exact hq.trap (src:=(M.tick b.C).Pc) (cause:=4) (bad:=0) ht.pc (by omega) (by omega)
 |false=>
 simp only[cFq];by_cases h:M.walk b.Mem (M.tick b.C).Root (M.tick b.C).Pc (M.tick b.C).User false=-1;{rw[dT h];exact ht.trap (src:=(M.tick b.C).Pc) (cause:=2) (bad:=(M.tick b.C).Pc) ht.pc (by omega) ht.pc};{have hw:=aDl _ _ _ _ _ h;have hm:=aBo hb hw.1 hw.2;rw[dF h];exact bXy ht (aIk hm.1 hm.2)}
theorem BOk.small(hb:BOk b):SmallB b:=⟨⟨by have:=hb.regs;omega⟩,by have:=hb.len;omega,by have:=hb.inn;omega,by have:=hb.out;omega⟩
end
end Go.Proofs.YtcgggihjcelmhaaGreat
