/- The plain functions: what they answer. -/
import Derived.Test.YtkjabgefacfpfaaGreatZY
import Derived.Test.YtkjabgefacfpfaaGreatWBS1
import Derived.Laws.Bits64
namespace Go.Proofs.YtkjabgefacfpfaaGreat
set_option linter.all false
theorem oB.{u,v} {α:Type u} {β:Type v} (a:α) (f:α->Option β):(some a).bind f=f a:=rfl
theorem dF{p:Prop}[Decidable p](h:¬p):decide p=false:=decide_eq_false h
theorem dT{p:Prop}[Decidable p](h:p):decide p=true:=decide_eq_true h
theorem cFq.{u} {α:Sort u} (a b:α):cond false a b=b:=rfl
theorem cTq.{u} {α:Sort u} (a b:α):cond true a b=a:=rfl
theorem bT:(!true)=false:=rfl
theorem bF:(!false)=true:=rfl
theorem bA(a b:Bool):((a&&b)=true)=(a=true/\b=true):=Bool.and_eq_true a b
theorem iT(n:Nat):Int.toNat (n:Int)=n:=rfl
theorem iM{a b:Int}(h:0<=a):a.tmod b=a%b:=Int.tmod_eq_emod_of_nonneg h
theorem lS.{u} {α:Type u} {xs:List α} {i:Nat} {a:α}:(xs.set i a).length=xs.length:=List.length_set
theorem cE{α:Type}[Inhabited α]{xs:List α}{i:Nat}(h:i<xs.length):xs.getD i default=xs[i]:=by simp[List.getD,h]
namespace M
def inR(lo hi n:Int):Bool:=decide (lo<=n)&&decide (n<=hi)
def wordOk(n:Int):Bool:=inR 0 4095 n
def wordsOk(xs:List Int):Bool:=xs.all wordOk
def memOk(xs:List Int):Bool:=decide (xs.length=64)&&wordsOk xs
theorem inR_iff{lo hi n:Int}:inR lo hi n=true↔lo<=n/\n<=hi:=by simp[inR]
end M
theorem bPn{b:Bool}{x:Option Bool}{y:Bool}(h:x=some y):(cond b x (some false))=some (b&&y):=by cases b<;>simp[h]
theorem vJ{b y:Bool}:(cond b (some y) (some false))=some (b&&y):=by cases b<;>rfl
theorem aEs(n:Int):jT n=some (M.wordOk n):=by unfold jT;rw[vJ];rfl
theorem rX(n lo hi:Int):dC n lo hi=some (M.inR lo hi n):=by unfold dC;rw[vJ];rfl
theorem vI(n:Int):gY n=some (M.wordOk n):=by unfold gY;rw[rX];rfl
theorem aSw{a b:Int}:decide (a<b+1)=decide (a<=b):=by rw[decide_eq_decide];omega
theorem zH {T:Type} [Inhabited T] {xs:List T} {Pf:T->Option Bool} {p:T->Bool} (hP:∀x,Pf x=some (p x)) (hl:xs.length<=9223372036854775806) (step:Int->Option (LO Int (JO Unit Bool)))
 (hs:∀k,step k=cond (decide (k<((List.length xs:Nat):Int))) (grd ((0:Int)<=k/\k<((List.length xs:Nat):Int)) (Option.bind (Pf (List.getD xs (Int.toNat k) default)) λv=>cond (!v) (some (.ret (.out false))) (some (.next (w64 (k+(1:Int))))))) (some (.ret (.go ())))):
 iter step 0=some (.ret (bif xs.all p then .go ()else .out false)):=by
 have key:∀k:Int,(0<=k/\k<=(xs.length:Int))->iter step k=some (.ret (bif (xs.drop k.toNat).all p then .go ()else .out false)):=by
  refine zT _ (λk=>xs.length-k.toNat) _ ?_
  rintro k ⟨h0,h1⟩
  by_cases hk:k<xs.length
  · have e1:xs.drop k.toNat=xs.getD k.toNat default::xs.drop (k+1).toNat:=by
     rw[cE (by omega),show(k+1).toNat=k.toNat+1 by omega];exact List.drop_eq_getElem_cons (by omega)
    have hst:step k=cond (!p (xs.getD k.toNat default)) (some (.ret (.out false))) (some (.next (k+1))):=(by rw[hs,dT hk,cTq,aA ⟨h0,hk⟩,hP,aJ (by omega) (by omega)];rfl);(cases hp:p (xs.getD k.toNat default)with|true=>refine .inl ⟨k+1,by rw[hst,hp];rfl,⟨by omega,by omega⟩,by omega,?_⟩;rw[e1,List.all_cons,hp,Bool.true_and]|false=>refine .inr ⟨λs'=>by rw[hst,hp];simp,?_⟩;rw[hst,hp,e1,List.all_cons,hp];rfl)
  {have hk2:k=xs.length:=(by omega);have hf:decide (k<((List.length xs:Nat):Int))=false:=(by simp;omega);refine .inr ⟨λs'=>by rw[hs,hf];simp,?_⟩;rw[hs,hf,hk2];simp}
 simpa using key 0 ⟨by omega,by omega⟩
theorem aGe{xs:List Int}(h:xs.length<=9223372036854775806):kS xs=some (M.wordsOk xs):=by unfold kS;rw[zH aEs h (xC xs) (λk=>rfl)];simp only[M.wordsOk];cases xs.all M.wordOk<;>rfl
theorem bHq{xs:List Int}(h:M.memOk xs=true):xs.length=64:=by simp only[M.memOk,bA,decide_eq_true_eq]at h;exact h.1
theorem iQ{xs:List Int}(h:M.wordsOk xs=true){i:Nat}(hi:i<xs.length):0<=xs.getD i default/\xs.getD i default<=4095:=by rw[cE hi];exact M.inR_iff.1 (List.all_eq_true.1 h _ (List.getElem_mem hi))
theorem aBj{xs:List Int}(h:M.wordsOk xs=true){i:Nat}{w:Int}(h0:0<=w)(h1:w<=4095):M.wordsOk (xs.set i w)=true:=by refine List.all_eq_true.2 λx hx=>?_;rcases List.mem_or_eq_of_mem_set hx with h2|rfl;{exact List.all_eq_true.1 h x h2};{exact M.inR_iff.2 ⟨h0,h1⟩}
theorem vX{xs:List Int}(h:xs.length<=1048576):dX xs=some xs:=by
 have key:∀s:List Int×Int,(0<=s.2/\s.2<=(xs.length:Int)/\s.1.length=xs.length/\∀i,i<s.2.toNat->s.1[i]? =xs[i]?)->iter (kV xs) s=some (.ret (.go xs)):=by
  refine zT _ (λs=>xs.length-s.2.toNat) _ ?_
  rintro⟨ys,k⟩ ⟨h0,h1,h2,h3⟩
  simp only at h0 h1 h2 h3;by_cases hk:k<xs.length;{refine .inl ⟨(ys.set k.toNat (xs.getD k.toNat default),k+1),?_,⟨by simp only;omega,by simp only;omega,by simpa using h2,?_⟩,by simp only;omega,rfl⟩;{simp only[kV,dT hk,cTq,grd,h2];rw[if_pos ⟨h0,hk⟩,if_pos ⟨h0,hk⟩,aJ (by omega) (by omega)]};{intro j hj;simp only at hj ⊢;rw[List.getElem?_set];by_cases e:k.toNat=j;{subst e;rw[if_pos rfl,if_pos (by omega),cE (by omega),List.getElem?_eq_getElem (by omega)]};{rw[if_neg e];exact h3 j (by omega)}}}
  · have hy:ys=xs:=by
     apply List.ext_getElem?;intro j;by_cases hj:j<xs.length;{exact h3 j (by omega)};{rw[List.getElem?_eq_none (by omega),List.getElem?_eq_none (by omega)]}
    have hf:decide (k<(xs.length:Int))=false:=(by simp;omega);refine .inr ⟨?_,?_⟩;{intro s';simp only[kV,hf,cFq];simp};{simp only[kV,hf,cFq,hy]}
 unfold dX;rw[aA ⟨by omega,by omega,by omega⟩,key _ ⟨by simp,by simp,by simp,by simp⟩];rfl
theorem wQ{xs ys:List Int}(h:xs.length<=9223372036854775807):fS xs ys=some (decide (xs=ys)):=by
 unfold fS;by_cases hl:xs.length=ys.length
 · have key:∀k:Int,(0<=k/\k<=(xs.length:Int))->iter (fT xs ys) k=some (.ret (bif decide (xs.drop k.toNat=ys.drop k.toNat)then .go ()else .out false)):=by
    refine zT _ (λk=>xs.length-k.toNat) _ ?_
    rintro k ⟨h0,h1⟩
    by_cases hk:k<xs.length
    · have e1:xs.drop k.toNat=xs.getD k.toNat default::xs.drop (k+1).toNat:=by
       rw[cE (by omega),show(k+1).toNat=k.toNat+1 by omega];exact List.drop_eq_getElem_cons (by omega)
      have e2:ys.drop k.toNat=ys.getD k.toNat default::ys.drop (k+1).toNat:=(by rw[cE (by omega),show(k+1).toNat=k.toNat+1 by omega];exact List.drop_eq_getElem_cons (by omega));by_cases he:xs.getD k.toNat default=ys.getD k.toNat default;{refine .inl ⟨k+1,?_,⟨by omega,by omega⟩,by omega,?_⟩;{simp only[fT,dT hk,cTq,grd];rw[if_pos ⟨h0,hk⟩,if_pos ⟨h0,by omega⟩,he,aJ (by omega) (by omega)];simp};{rw[e1,e2,he];simp}};{have hf:(!decide (xs.getD k.toNat default=ys.getD k.toNat default))=true:=(by rw[dF he];rfl);refine .inr ⟨?_,?_⟩;{intro s';simp only[fT,dT hk,cTq,grd];rw[if_pos ⟨h0,hk⟩,if_pos ⟨h0,by omega⟩,hf];simp};{simp only[fT,dT hk,cTq,grd];rw[if_pos ⟨h0,hk⟩,if_pos ⟨h0,by omega⟩,hf,e1,e2];have:decide (xs.getD k.toNat default::xs.drop (k+1).toNat=ys.getD k.toNat default::ys.drop (k+1).toNat)=false:=dF λe=>he (List.cons.inj e).1;rw[this];rfl}}
    {have hk2:k=xs.length:=(by omega);subst hk2;refine .inr ⟨?_,?_⟩;{intro s';simp[fT]};{simp[fT,hl]}}
   rw[key 0 ⟨by omega,by omega⟩];have:decide ((xs.length:Int)=(ys.length:Int))=true:=(by simp[hl]);rw[this];by_cases e:xs=ys;{subst e;simp[LO.val,JO.run,yM]};{simp[e,LO.val,JO.run]}
 {have:decide ((xs.length:Int)=(ys.length:Int))=false:=(by simp;omega);rw[this];have e:xs≠ys:=λe=>hl (by rw[e]);simp[e]}
def jZ(k:Int)(n:Nat):List Int:=(List.range n).map λ(i:Nat)=>k+(i:Int)
theorem iU{k:Int}{n:Nat}:(jZ k n).length=n:=by simp[jZ]
theorem rW{xs:List Int}{k:Int}(h:xs.length<=9007199254740992)(h0:0<=k)(h1:k<=9007199254740992):eP xs k=some (jZ k xs.length,k+xs.length):=by
 have key:∀s:List Int×Int×Int,(0<=s.2.2/\s.2.2<=(xs.length:Int)/\s.2.1=k+s.2.2/\s.1.length=xs.length/\∀i,i<s.2.2.toNat->s.1[i]? =some (k+i))->iter gC s=some (.ret (.go (k+xs.length,jZ k xs.length))):=by
  refine zT _ (λs=>xs.length-s.2.2.toNat) _ ?_
  rintro⟨ys,q,i⟩ ⟨a0,a1,a2,a3,a4⟩
  simp only at a0 a1 a2 a3 a4;by_cases hi:i<xs.length;{refine .inl ⟨(ys.set i.toNat q,q+1,i+1),?_,⟨by simp only;omega,by simp only;omega,by simp only;omega,by simpa using a3,?_⟩,by simp only;omega,rfl⟩;{simp only[gC,a3,dT hi,cTq,grd];rw[if_pos ⟨a0,hi⟩,aJ (by omega) (by omega),aJ (by omega) (by omega)]};{intro j hj;simp only at hj ⊢;rw[List.getElem?_set];by_cases e:i.toNat=j;{subst e;rw[if_pos rfl,if_pos (by omega)];congr 1;omega};{rw[if_neg e];exact a4 j (by omega)}}};{have hi2:i=xs.length:=(by omega);have hy:ys=jZ k xs.length:=(by apply List.ext_getElem?;intro j;by_cases hj:j<xs.length;{rw[a4 j (by omega)];simp[jZ,hj]};{rw[List.getElem?_eq_none (by omega),List.getElem?_eq_none (by rw[iU];omega)]});have hf:decide (i<(ys.length:Int))=false:=(by simp;omega);refine .inr ⟨?_,?_⟩;{intro s';simp only[gC,hf,cFq];simp};{simp only[gC,hf,cFq,a2,hi2,hy];rw[<-hy,a3];simp}}
 unfold eP;rw[key _ ⟨by simp,by simp,by simp,rfl,by simp⟩];rfl
theorem aKe{n:Nat}{k:Int}(h:n<=9007199254740992)(h0:0<=k)(h1:k<=9007199254740992):gJ (jZ k n) k=some (k+n):=by
 have key:∀s:Int×Int,(0<=s.2/\s.2<=(n:Int)/\s.1=k+s.2)->iter (iX (jZ k n)) s=some (.ret (.go (k+n))):=by
  refine zT _ (λs=>n-s.2.toNat) _ ?_
  rintro⟨q,i⟩ ⟨a0,a1,a2⟩
  simp only at a0 a1 a2;by_cases hi:i<n;{refine .inl ⟨(q+1,i+1),?_,⟨by simp only;omega,by simp only;omega,by simp only;omega⟩,by simp only;omega,rfl⟩;have hl:i<((jZ k n).length:Int):=(by rw[iU];exact hi);have hg:(jZ k n).getD i.toNat default=q:=(by rw[cE (by rw[iU];omega)];simp only[jZ,List.getElem_map,List.getElem_range];omega);simp only[iX,dT hl,cTq,grd];rw[if_pos ⟨a0,hl⟩,hg,aJ (by omega) (by omega),aJ (by omega) (by omega)];simp};{have hf:decide (i<((jZ k n).length:Int))=false:=(by simp[iU];omega);refine .inr ⟨?_,?_⟩;{intro s';simp only[iX,hf,cFq];simp};{simp only[iX,hf,cFq,a2];rw[show i=n by omega]}}
 unfold gJ;rw[key _ ⟨by simp,by simp,by simp⟩];rfl
theorem aAv{xs:List Int}{left:Int}(h:xs.length<=9223372036854775807)(h0:0<=left)(h1:left<=1048576):jP xs left=some (if(xs.length:Int)<=left then left-xs.length else-1):=by unfold jP;rw[aJ (by omega) (by omega)];by_cases hl:(xs.length:Int)<=left;{have:decide (left-(xs.length:Int)<0)=false:=(by simp;omega);rw[this,if_pos hl];rfl};{have:decide (left-(xs.length:Int)<0)=true:=(by simp;omega);rw[this,if_neg hl];rfl}
theorem aYd(n:Int):dJ n=some (M.inR 0 63 n):=by unfold dJ;rw[vJ,show(64:Int)=63+1 from rfl,aSw];rfl
theorem aFa(n:Int):jO n=some (M.inR 0 7 n):=by unfold jO;rw[vJ,show(8:Int)=7+1 from rfl,aSw];rfl
theorem bHt(n:Int):oS n=some (M.inR (-1) 7 n):=by unfold oS;rw[aFa];by_cases h:n=-1;{subst h;rfl};{rw[dF h];show some (M.inR 0 7 n)=_;congr 1;simp only[M.inR];congr 1;rw[decide_eq_decide];omega}
noncomputable instance:DecidableEq DCore:=λa b=>Classical.propDecidable (a=b)
noncomputable instance:DecidableEq DBare:=λa b=>Classical.propDecidable (a=b)
namespace M
def coreOk(c:DCore):Bool:=decide (c.Regs.length=4)&&wordsOk c.Regs&&(inR 0 63 c.Pc&&inR 0 63 c.Vector&&inR 0 63 c.Saved&&inR 0 63 c.Bad)&&inR (-1) 7 c.Root&&inR 0 4 c.Cause&&wordOk c.Timer
def rowOk(xs:List Int):Bool:=decide (xs.length<=30)&&wordsOk xs
def bareOk(b:DBare):Bool:=coreOk b.C&&memOk b.Mem&&rowOk b.In&&rowOk b.Out
end M
theorem bBm{xs:List Int}(h:xs.length<=9223372036854775806):qE xs=some (M.rowOk xs):=by unfold qE;rw[aGe h];show cond _ (some _) (some false)=_;rw[vJ];simp only[M.rowOk];congr 2;rw[decide_eq_decide];omega
theorem bAn{xs:List Int}(h:xs.length<=9223372036854775806):gE xs 30=some (M.rowOk xs):=by unfold gE;rw[zH vI h (rL xs) (λk=>rfl)];simp only[M.rowOk,M.wordsOk];cases xs.all M.wordOk;{simp[LO.val,JO.run]};{simp only[LO.val,JO.run,oB,rR,cTq,Bool.and_true];congr 1;rw[decide_eq_decide];omega}
theorem bKr{c:DCore}(h:c.Regs.length<=9223372036854775806):sC c=some (M.coreOk c):=by unfold sC;simp only[aGe h,aYd,bHt,aEs,oB];have e4:decide (((c.Regs.length:Nat):Int)=4)=decide (c.Regs.length=4):=(by rw[decide_eq_decide];omega);rw[e4];simp only[M.coreOk,M.inR];generalize decide (c.Regs.length=4)=b0;generalize M.wordsOk c.Regs=b1;generalize(decide (0<=c.Pc)&&decide (c.Pc<=63))=b2;generalize(decide (0<=c.Vector)&&decide (c.Vector<=63))=b3;generalize(decide (0<=c.Saved)&&decide (c.Saved<=63))=b4;generalize(decide (0<=c.Bad)&&decide (c.Bad<=63))=b5;generalize(decide (-1<=c.Root)&&decide (c.Root<=7))=b6;generalize decide (0<=c.Cause)=b7;generalize decide (c.Cause<=4)=b8;generalize M.wordOk c.Timer=b9;cases b0<;>cases b2<;>cases b3<;>cases b4<;>cases b7<;>cases b1<;>cases b5<;>cases b6<;>cases b8<;>rfl
theorem bId{c:DCore}(h:c.Regs.length<=9223372036854775806):oO c=some (M.coreOk c):=by unfold oO;rw[zH vI h (zS c) (λk=>rfl)];simp only[M.coreOk,M.wordsOk];cases c.Regs.all M.wordOk;{simp[LO.val,JO.run]};{simp only[LO.val,JO.run,oB,yH,cTq,Bool.and_true,rX,vI];have e4:decide (((c.Regs.length:Nat):Int)=4)=decide (c.Regs.length=4):=(by rw[decide_eq_decide];omega);rw[e4];generalize decide (c.Regs.length=4)=b0;generalize M.inR 0 63 c.Pc=b2;generalize M.inR 0 63 c.Vector=b3;generalize M.inR 0 63 c.Saved=b4;generalize M.inR 0 63 c.Bad=b5;generalize M.inR (-1) 7 c.Root=b6;generalize M.inR 0 4 c.Cause=b7;generalize M.wordOk c.Timer=b9;cases b0<;>cases b2<;>cases b3<;>cases b4<;>cases b7<;>cases b5<;>cases b6<;>rfl}
structure SmallC (c : DCore) : Prop where
 regs:c.Regs.length<=1048576
structure SmallB (b : DBare) : Prop where
 c:SmallC b.C
 mem:b.Mem.length<=1048576
 i:b.In.length<=1048576
 o:b.Out.length<=1048576
theorem bEt{c:DCore}(h:SmallC c):sK c=some c:=by unfold sK;rw[vX h.regs];rfl
theorem bFo{a b:DCore}(h:a.Regs.length<=9223372036854775807):sL a b=some (decide (a=b)):=by unfold sL;rw[wQ h];obtain⟨r,p1,p2,p3,p4,p5,p6,p7,p8,p9,p10,p11,p12⟩:=a;obtain⟨r',q1,q2,q3,q4,q5,q6,q7,q8,q9,q10,q11,q12⟩:=b;simp only[oB,DCore.mk.injEq];by_cases h0:r=r'<;>by_cases h1:p1=q1<;>by_cases h2:p2=q2<;>by_cases h3:p3=q3<;>by_cases h4:p4=q4<;>by_cases h6:p6=q6<;>by_cases h7:p7=q7<;>by_cases h8:p8=q8<;>simp[*];cases p5<;>cases q5<;>cases p9<;>cases q9<;>cases p10<;>cases q10<;>cases p11<;>cases q11<;>cases p12<;>cases q12<;>rfl
theorem bHp{c:DCore}{left:Int}(h:c.Regs.length<=9223372036854775807)(h0:0<=left)(h1:left<=1048576):sM c left=some (if(c.Regs.length:Int)<=left then left-c.Regs.length else-1):=by unfold sM;rw[aAv h h0 h1];simp only[oB];split;{have:decide (left-(c.Regs.length:Int)<0)=false:=(by simp;omega);rw[this];rfl};{rfl}
theorem bNq{v:Int}(h:v<0):decide (v<0)=true:=dT h
theorem aLa{T:Type}[Inhabited T]{pre suf:List T}{x:T}:(pre++x::suf).getD pre.length default=x:=by simp[List.getD]
theorem aHs {T:Type} [Inhabited T] {xs ys:List T} {step:List T×Int->Option (LO (List T×Int) (JO (List T) (List T)))} (hl:ys.length=xs.length)
 (hs:∀(k:Nat) (zs:List T),k<xs.length->zs.length=xs.length->step (zs,(k:Int))=some (.next (zs.set k (xs.getD k default),(k:Int)+1)))
 (he:∀zs:List T,zs.length=xs.length->step (zs,(xs.length:Int))=some (.ret (.go zs))):iter step (ys,0)=some (.ret (.go xs)):=by
 have key:∀(n k:Nat) (zs:List T),k+n=xs.length->zs.length=xs.length->(∀i,i<k->zs[i]? =xs[i]?)->iter step (zs,(k:Int))=some (.ret (.go xs)):=by
  intro n;induction n with
  |zero=>intro k zs hk hz h;have e:zs=xs:=(by apply List.ext_getElem?;intro i;by_cases hi:i<k;{exact h i hi};{rw[List.getElem?_eq_none (by omega),List.getElem?_eq_none (by omega)]});have hk:k=xs.length:=(by omega);rw[eH,hk,he zs hz,e]
  |succ n ih=>
   intro k zs hk hz h;rw[eH,hs k zs (by omega) hz]
   have:=ih (k+1) (zs.set k (xs.getD k default)) (by omega) (by simpa using hz) (λi hi=>by
    rw[List.getElem?_set];by_cases e:k=i;{subst e;rw[if_pos rfl,if_pos (by omega),cE (by omega),List.getElem?_eq_getElem (by omega)]}
    · rw[if_neg e];exact h i (by omega))
   simpa using this
 simpa using key xs.length 0 ys (by omega) hl (by simp)
def dM{T:Type}(m:T->Int->T×Int):List T->Int->List T×Int
 |[],k=>([],k)
 |x::xs,k=>((m x k).1::(dM m xs (m x k).2).1,(dM m xs (m x k).2).2)
theorem wA{T:Type}{m:T->Int->T×Int}:∀{xs:List T} {k:Int},(dM m xs k).1.length=xs.length
 |[],_=>rfl
 |x::xs,k=>by simp[dM,wA]
theorem aMq{T:Type}{m:T->Int->T×Int}{C:Int}:∀{xs:List T} {k:Int},(∀x∈xs,∀k,k<=(m x k).2/\(m x k).2<=k+C)->k<=(dM m xs k).2/\(dM m xs k).2<=k+xs.length*C
 |[],k,_=>by simp[dM]
 |x::xs,k,h=>by have h1:=h x (by simp) k;have h2:=aMq (xs:=xs) (k:=(m x k).2) λy hy=>h y (by simp[hy]);simp only[dM,List.length_cons];have:((xs.length+1:Nat):Int)*C=(xs.length:Int)*C+C:=(by rw[Int.natCast_add,Int.add_mul];simp);omega
theorem aQy {T:Type} [Inhabited T] {m:T->Int->T×Int} {C B:Int} {step:List T×Int×Int->Option (LO (List T×Int×Int) (JO (Int×List T) (List T×Int)))} {xs:List T} {k:Int}
 (hm:∀x∈xs,∀k,k<=(m x k).2/\(m x k).2<=k+C) (hk:0<=k) (hB:k+xs.length*C<=B) (hC:0<=C)
 (hs:∀(zs:List T) (i:Nat) (q:Int),zs.length=xs.length->i<zs.length->zs.getD i default∈xs->0<=q->q<=B-C->step (zs,q,(i:Int))=some (.next (zs.set i (m (zs.getD i default) q).1,(m (zs.getD i default) q).2,(i:Int)+1)))
 (he:∀(zs:List T) (q:Int),zs.length=xs.length->step (zs,q,(zs.length:Int))=some (.ret (.go (q,zs)))):iter step (xs,k,0)=some (.ret (.go ((dM m xs k).2,(dM m xs k).1))):=by
 have key:∀(suf pre:List T) (q:Int),(pre++suf).length=xs.length->(∀x∈suf,x∈xs)->0<=q->q+suf.length*C<=B->iter step (pre++suf,q,(pre.length:Int))=some (.ret (.go ((dM m suf q).2,pre++(dM m suf q).1))):=by
  intro suf;induction suf with
  |nil=>intro pre q hl _ _ _;rw[List.append_nil]at hl ⊢;rw[eH,he pre q hl];simp[dM]
  |cons x suf ih=>intro pre q hl hx hq hb;have e1:(pre++x::suf).getD pre.length default=x:=aLa;have hb1:((suf.length+1:Nat):Int)*C=(suf.length:Int)*C+C:=(by rw[Int.natCast_add,Int.add_mul];simp);have hnn:0<=(suf.length:Int)*C:=Int.mul_nonneg (by omega) hC;simp only[List.length_cons]at hb;have h1:=hm x (hx x (by simp)) q;rw[eH,hs (pre++x::suf) pre.length q hl (by simp) (by rw[e1];exact hx x (by simp)) hq (by omega)];rw[e1];have e2:(pre++x::suf).set pre.length (m x q).1=(pre++[(m x q).1])++suf:=(by simp);have:=ih (pre++[(m x q).1]) (m x q).2 (by simpa using hl) (λy hy=>hx y (by simp[hy])) (by omega) (by omega);simp only[List.length_append,List.length_cons,List.length_nil,Nat.zero_add,Int.natCast_add]at this;simp only[e2];rw[show((1:Nat):Int)=1 from rfl]at this;rw[this];simp[dM]
 simpa using key xs [] k rfl (λ_ h=>h) hk hB
theorem aQw {T:Type} [Inhabited T] {m:T->Int->T×Int} {C B:Int} {step:List T->Int×Int->Option (LO (Int×Int) (JO Int Int))} {xs:List T} {k:Int}
 (hm:∀x∈xs,∀k,k<=(m x k).2/\(m x k).2<=k+C) (hk:0<=k) (hB:k+xs.length*C<=B) (hC:0<=C)
 (hs:∀(zs:List T) (i:Nat) (x:T) (q:Int),zs.length=xs.length->i<zs.length->x∈xs->0<=q->q<=B-C->zs.getD i default=(m x q).1->step zs (q,(i:Int))=some (.next ((m x q).2,(i:Int)+1)))
 (he:∀(zs:List T) (q:Int),zs.length=xs.length->step zs (q,(zs.length:Int))=some (.ret (.go q))):iter (step (dM m xs k).1) (k,0)=some (.ret (.go (dM m xs k).2)):=by
 have key:∀(suf pre:List T) (q:Int),(pre++suf).length=xs.length->(∀x∈suf,x∈xs)->0<=q->q+suf.length*C<=B->iter (step (pre++(dM m suf q).1)) (q,(pre.length:Int))=some (.ret (.go (dM m suf q).2)):=by
  intro suf;induction suf with
  |nil=>intro pre q hl _ _ _;simp only[dM];rw[List.append_nil]at hl ⊢;rw[eH,he pre q hl]
  |cons x suf ih=>intro pre q hl hx hq hb;have hb1:((suf.length+1:Nat):Int)*C=(suf.length:Int)*C+C:=(by rw[Int.natCast_add,Int.add_mul];simp);have hnn:0<=(suf.length:Int)*C:=Int.mul_nonneg (by omega) hC;simp only[List.length_cons]at hb;have h1:=hm x (hx x (by simp)) q;simp only[dM];have e1:(pre++(m x q).1::(dM m suf (m x q).2).1).getD pre.length default=(m x q).1:=aLa;rw[eH,hs _ pre.length x q (by simpa[wA]using hl) (by simp) (hx x (by simp)) hq (by omega) e1];have:=ih (pre++[(m x q).1]) (m x q).2 (by simpa using hl) (λy hy=>hx y (by simp[hy])) (by omega) (by omega);simp only[List.length_append,List.length_cons,List.length_nil,Nat.zero_add,Int.natCast_add,List.append_assoc,List.cons_append,List.nil_append]at this;rw[show((1:Nat):Int)=1 from rfl]at this;exact this
 simpa using key xs [] k rfl (λ_ h=>h) hk hB
theorem aZa {T:Type} [Inhabited T] {xs ys:List T} {step:Int->Option (LO Int (JO Unit Bool))} {d:T->T->Bool} (hd:∀x∈xs,∀y,d x y=true↔x=y) (hl:xs.length=ys.length)
 (hs:∀i:Nat,i<xs.length->xs.getD i default∈xs->step (i:Int)=some (bif d (xs.getD i default) (ys.getD i default)then .next ((i:Int)+1)else .ret (.out false)))
 (he:step (xs.length:Int)=some (.ret (.go ()))):∃b:Bool,iter step 0=some (.ret (bif b then .go ()else .out false))/\(b=true↔xs=ys):=by
 have key:∀(n k:Nat),k+n=xs.length->∃b:Bool,iter step (k:Int)=some (.ret (bif b then .go ()else .out false))/\(b=true↔xs.drop k=ys.drop k):=by
  intro n;induction n with
  |zero=>intro k hk;have hk:k=xs.length:=(by omega);refine⟨true,by rw[eH,hk,he];rfl,?_⟩;subst hk;simp[hl]
  |succ n ih=>
   intro k hk;have hm:xs.getD k default∈xs:=(by rw[cE (by omega)];exact List.getElem_mem _);have e1:xs.drop k=xs.getD k default::xs.drop (k+1):=(by rw[cE (by omega)];exact List.drop_eq_getElem_cons (by omega));have e2:ys.drop k=ys.getD k default::ys.drop (k+1):=(by rw[cE (by omega)];exact List.drop_eq_getElem_cons (by omega));rw[eH,hs k (by omega) hm,e1,e2];cases hdd:d (xs.getD k default) (ys.getD k default)with
   |true=>obtain⟨b,h1,h2⟩:=ih (k+1) (by omega);refine⟨b,by simpa using h1,?_⟩;rw[h2,(hd _ hm _).1 hdd];simp
   |false=>
    refine⟨false,by simp,?_⟩;have:xs.getD k default≠ys.getD k default:=λe=>by rw[(hd _ hm _).2 e]at hdd;cases hdd
    simp only[List.cons.injEq,Bool.false_eq_true,false_iff];exact λh=>this h.1
 obtain⟨b,h1,h2⟩:=key xs.length 0 (by omega);exact⟨b,by simpa using h1,by simpa using h2⟩
section
variable {T σ S R : Type} [Inhabited T]
theorem tD {xs:List T} {step:S->Option (LO S R)} (enc:σ->Int->S) (p:T->Bool) (g:σ->T->σ) (fin:σ->R) (r:R) (Inv:Nat->σ->Prop)
 (hs:∀(i:Nat) x s,(i:Int)<(xs.length:Int)->x∈xs->xs.getD i default=x->Inv i s->step (enc s i)=some (bif p x then .next (enc (g s x) ((i:Int)+1))else .ret r)/\(p x=true->Inv (i+1) (g s x)))
 (he:∀s,Inv xs.length s->step (enc s xs.length)=some (.ret (fin s))) (s:σ) (hi:Inv 0 s):
 iter step (enc s 0)=some (.ret (bif xs.all p then fin (xs.foldl g s)else r))/\(xs.all p=true->Inv xs.length (xs.foldl g s)):=by
 have key:∀(suf pre:List T) (s:σ),xs=pre++suf->Inv pre.length s->iter step (enc s pre.length)=some (.ret (bif suf.all p then fin (suf.foldl g s)else r))/\(suf.all p=true->Inv xs.length (suf.foldl g s)):=by
  intro suf;induction suf with
  |nil=>intro pre s hx hi;rw[List.append_nil]at hx;subst hx;rw[eH,he s hi];exact⟨rfl,λ_=>hi⟩
  |cons x suf ih=>intro pre s hx hi;obtain⟨h1,h2⟩:=hs pre.length x s (by rw[hx];simp;omega) (by rw[hx];simp) (by rw[hx];simp[List.getD]) hi;rw[eH,h1];(cases hp:p x with|false=>simp[List.all_cons,hp]|true=>obtain⟨g1,g2⟩:=ih (pre++[x]) (g s x) (by rw[hx];simp) (by simpa using h2 hp);simp only[List.length_append,List.length_cons,List.length_nil,Nat.zero_add,Int.natCast_add]at g1;simp only[cTq,List.all_cons,hp,Bool.true_and,List.foldl_cons];exact⟨g1,g2⟩)
 simpa using key xs [] s rfl hi
theorem nM {xs:List T} {step:S->Option (LO S R)} (enc:σ->Int->S) (g:σ->T->σ) (fin:σ->R) (Inv:Nat->σ->Prop)
 (hs:∀(i:Nat) x s,(i:Int)<(xs.length:Int)->x∈xs->xs.getD i default=x->Inv i s->step (enc s i)=some (.next (enc (g s x) ((i:Int)+1)))/\Inv (i+1) (g s x))
 (he:∀s,Inv xs.length s->step (enc s xs.length)=some (.ret (fin s))) (s:σ) (hi:Inv 0 s):
 iter step (enc s 0)=some (.ret (fin (xs.foldl g s)))/\Inv xs.length (xs.foldl g s):=by
 have h:=tD (p:=λ_=>true) enc g fin (fin s) Inv (λi x s h1 h2 h3 h4=>⟨(hs i x s h1 h2 h3 h4).1,λ_=>(hs i x s h1 h2 h3 h4).2⟩) he s hi;have e:xs.all (λ_=>true)=true:=(by simp);rw[e]at h;exact⟨h.1,h.2 rfl⟩
theorem aCz {n:Nat} {step:S->Option (LO S R)} (enc:σ->Int->S) (g:σ->Nat->σ) (fin:σ->R) (Inv:Nat->σ->Prop)
 (hs:∀(i:Nat) s,i<n->Inv i s->step (enc s i)=some (.next (enc (g s i) ((i:Int)+1)))/\Inv (i+1) (g s i))
 (he:∀s,Inv n s->step (enc s n)=some (.ret (fin s))) (s:σ) (hi:Inv 0 s):
 iter step (enc s 0)=some (.ret (fin ((List.range n).foldl g s)))/\Inv n ((List.range n).foldl g s):=by
 have h:=nM (xs:=List.range n) enc g fin Inv (λi x s h1 h2 h3 h4=>by have hi:i<n:=(by simpa using h1);have:x=i:=(by rw[<-h3];simp[List.getD,hi]);subst this;exact hs x s hi h4) (by simpa using he) s hi;simpa using h
theorem bEo {n:Nat} {step:S->Option (LO S R)} (enc:Int->S) (p:Nat->Bool) (a r:R)
 (hs:∀(i:Nat),i<n->step (enc i)=some (bif p i then .next (enc ((i:Int)+1))else .ret r))
 (he:step (enc n)=some (.ret a)):
 iter step (enc 0)=some (.ret (bif (List.range n).all p then a else r)):=by
 have h:=tD (xs:=List.range n) (σ:=Unit) (λ_ k=>enc k) p (λ_ _=>()) (λ_=>a) r (λ_ _=>True) (λi x s h1 h2 h3 h4=>by have hi:i<n:=(by simpa using h1);have:x=i:=(by rw[<-h3];simp[List.getD,hi]);subst this;exact⟨hs x hi,λ_=>trivial⟩) (λs _=>by simpa using he) () trivial;exact h.1
theorem bFy {n:Nat} {step:S->Option (LO S R)} (st:Nat->S) (ok:Nat->Bool) (a r:R)
 (hs:∀(i:Nat),i<n->(∀j,j<i->ok j=true)->step (st i)=some (bif ok i then .next (st (i+1))else .ret r))
 (he:(∀j,j<n->ok j=true)->step (st n)=some (.ret a)):
 iter step (st 0)=some (.ret (bif (List.range n).all ok then a else r)):=by
 have key:∀m i,i+m=n->(∀j,j<i->ok j=true)->iter step (st i)=some (.ret (bif (List.range n).all ok then a else r)):=by
  intro m;induction m with
  |zero=>intro i hi ho;have:i=n:=(by omega);subst this;have e:(List.range i).all ok=true:=(by simp only[List.all_eq_true,List.mem_range];exact ho);rw[eH,he ho,e];rfl
  |succ m ih=>intro i hi ho;rw[eH,hs i (by omega) ho];(cases e:ok i with|true=>refine ih (i+1) (by omega) ?_;intro j hj;by_cases h:j=i;{rw[h,e]};{exact ho j (by omega)}|false=>have e2:(List.range n).all ok=false:=(by rw[List.all_eq_false];exact⟨i,by rw[List.mem_range];omega,by rw[e];simp⟩);rw[e2];rfl)
 exact key n 0 (by omega) λj hj=>by omega
end
theorem qO{α β σ:Type}{f:α->List β}{g:σ->β->σ}:∀{xs:List α} {s:σ},xs.foldl (λs x=>(f x).foldl g s) s=(xs.flatMap f).foldl g s
 |[],_=>rfl
 |x::xs,s=>by simp only[List.foldl_cons,List.flatMap_cons,List.foldl_append];exact qO
noncomputable instance:DecidableEq DSlot:=λa b=>Classical.propDecidable (a=b)
noncomputable instance:DecidableEq DGuest:=λa b=>Classical.propDecidable (a=b)
noncomputable instance:DecidableEq DHost:=λa b=>Classical.propDecidable (a=b)
structure SmallG (g : DGuest) : Prop where
 c:SmallC g.C
 pages:g.Pages.length<=1048576
 i:g.In.length<=1048576
 o:g.Out.length<=1048576
structure SmallH (h : DHost) : Prop where
 words:h.Words.length<=1048576
 guests:h.Guests.length<=1048576
 all:∀g∈h.Guests,SmallG g
theorem dS{T:Type}[Inhabited T]{xs:List T}{k:Nat}(h:k<xs.length):xs.getD k default∈xs:=by rw[cE h];exact List.getElem_mem _
namespace M
def noCore:DCore:=⟨[],0,0,0,0,false,0,0,0,false,false,false,false⟩
def noGuest:DGuest:=⟨false,noCore,[],[],[]⟩
def slotOk(s:DSlot):Bool:=bif decide (s.Frame=-1)then !s.Write&&!s.Dirty else decide (0<=s.Frame)&&decide (s.Frame<20)
noncomputable def guestOk (g:DGuest):Bool:=bif g.Live then coreOk g.C&&(decide (g.Pages.length=8)&&g.Pages.all slotOk)&&rowOk g.In&&rowOk g.Out else decide (g=noGuest)
def slots(gs:List DGuest):List DSlot:=gs.flatMap (·.Pages)
def many(ss:List DSlot)(f:Int):Nat:=ss.countP λs=>decide (s.Frame=f)
def alone(ss:List DSlot):Bool:=ss.all λs=>!s.Write||decide (many ss s.Frame<=1)
def bump(xs:List Int)(s:DSlot):List Int:=bif decide (s.Frame=-1)then xs else xs.set s.Frame.toNat (xs.getD s.Frame.toNat default+1)
def takers(ss:List DSlot):List Int:=ss.foldl bump (List.replicate 20 0)
noncomputable def hostOk (h:DHost):Bool:=decide (h.Words.length=160)&&wordsOk h.Words&&(decide (h.Guests.length=3)&&h.Guests.all guestOk)&&alone (slots h.Guests)
end M
theorem bJn(s:DSlot):sB s=some (M.slotOk s):=by unfold sB M.slotOk;by_cases h:s.Frame=-1;{rw[dT h];cases s.Write<;>rfl};{rw[dF h];simp only[cFq];exact vJ}
theorem bHo{xs:List DSlot}(h:xs.length<=9223372036854775806):rG xs=some (decide (xs.length=8)&&xs.all M.slotOk):=by unfold rG;by_cases hl:xs.length=8;{have:decide (((xs.length:Nat):Int)=8)=true:=(by simp;omega);rw[this,bT,cFq,zH bJn h (xA xs) (λk=>rfl),dT hl];cases xs.all M.slotOk<;>rfl};{have:decide (((xs.length:Nat):Int)=8)=false:=(by simp;omega);rw[this,dF hl];rfl}
theorem dbe{a b:Bool}(h:a=true↔b=true):a=b:=Bool.eq_iff_iff.2 h
theorem bCz(c:DCore):pA c=some (decide (c=M.noCore)):=by obtain⟨a1,a2,a3,a4,a5,a6,a7,a8,a9,a10,a11,a12,a13⟩:=c;unfold pA;simp only[];by_cases h2:a2=0;{by_cases h3:a3=0;{by_cases h4:a4=0;{by_cases h5:a5=0;{by_cases h1:a1=[];{by_cases h8:a8=0;{by_cases h7:a7=0;{by_cases h9:a9=0;{subst h1 h2 h3 h4 h5 h7 h8 h9;cases a6<;>cases a10<;>cases a11<;>cases a12<;>cases a13<;>simp[M.noCore]};{rw[dF (p:=DCore.mk _ _ _ _ _ _ _ _ _ _ _ _ _=M.noCore) (by simp[M.noCore,h9])];simp only[dF h9];cases a6<;>cases a10<;>cases a11<;>cases a12<;>simp}};{rw[dF (p:=DCore.mk _ _ _ _ _ _ _ _ _ _ _ _ _=M.noCore) (by simp[M.noCore,h7])];simp only[dF h7];cases a6<;>cases a10<;>cases a11<;>cases a12<;>simp}};{rw[dF (p:=DCore.mk _ _ _ _ _ _ _ _ _ _ _ _ _=M.noCore) (by simp[M.noCore,h8])];simp only[dF h8];cases a6<;>cases a10<;>cases a11<;>cases a12<;>simp}};{rw[dF (p:=DCore.mk _ _ _ _ _ _ _ _ _ _ _ _ _=M.noCore) (by simp[M.noCore,h1])];have:decide (((a1.length:Nat):Int)=0)=false:=(by simp[h1]);simp only[this];cases a6<;>cases a10<;>cases a11<;>cases a12<;>simp}};{rw[dF (p:=DCore.mk _ _ _ _ _ _ _ _ _ _ _ _ _=M.noCore) (by simp[M.noCore,h5])];simp only[dF h5];cases a6<;>cases a10<;>cases a11<;>cases a12<;>simp}};{rw[dF (p:=DCore.mk _ _ _ _ _ _ _ _ _ _ _ _ _=M.noCore) (by simp[M.noCore,h4])];simp only[dF h4];cases a6<;>cases a10<;>cases a11<;>cases a12<;>simp}};{rw[dF (p:=DCore.mk _ _ _ _ _ _ _ _ _ _ _ _ _=M.noCore) (by simp[M.noCore,h3])];simp only[dF h3];cases a6<;>cases a10<;>cases a11<;>cases a12<;>simp}};{rw[dF (p:=DCore.mk _ _ _ _ _ _ _ _ _ _ _ _ _=M.noCore) (by simp[M.noCore,h2])];simp only[dF h2];cases a6<;>cases a10<;>cases a11<;>cases a12<;>simp}
theorem aVx{g:DGuest}(hl:g.Live=false):mQ g=some (decide (g=M.noGuest)):=by unfold mQ;rw[bCz,oB];obtain⟨l,c,p,i,o⟩:=g;simp only at hl;subst hl;simp only[M.noGuest,DGuest.mk.injEq,true_and];by_cases h1:c=M.noCore<;>by_cases h2:p=[]<;>by_cases h3:i=[]<;>by_cases h4:o=[]<;>simp[h1,h2,h3,h4]
theorem bRb{g:DGuest}(hl:g.Live=false):oK g=some (decide (g=M.noGuest)):=by
 unfold oK;obtain⟨l,⟨a1,a2,a3,a4,a5,a6,a7,a8,a9,a10,a11,a12,a13⟩,p,i,o⟩:=g;simp only at hl;subst hl;simp only[bPn rfl,vJ];congr 1;apply dbe;simp only[bA,decide_eq_true_eq,Bool.not_eq_true',M.noGuest,M.noCore,DGuest.mk.injEq,DCore.mk.injEq,true_and,Int.natCast_eq_zero,List.length_eq_zero_iff];constructor
 · rintro⟨h1,h2,h3,h4,h5,h6,h7,h8,h9,h10,h11,h12,h13,h14,h15,h16⟩;exact⟨⟨h1,h2,h3,h4,h5,h6,h7,h8,h9,h10,h11,h12,h13⟩,h14,h15,h16⟩
 · rintro⟨⟨h1,h2,h3,h4,h5,h6,h7,h8,h9,h10,h11,h12,h13⟩,h14,h15,h16⟩;exact⟨h1,h2,h3,h4,h5,h6,h7,h8,h9,h10,h11,h12,h13,h14,h15,h16⟩
theorem bFq{g:DGuest}(h:SmallG g):nA g=some (M.guestOk g):=by have:=h.c.regs;have:=h.pages;have:=h.i;have:=h.o;unfold nA M.guestOk;(cases hl:g.Live with|false=>simp only[bF,cTq,aVx hl,oB,cFq]|true=>simp only[bT,cFq,cTq];rw[bKr (by omega),bHo (by omega),bBm (by omega),bBm (by omega)];simp only[oB];cases M.coreOk g.C<;>cases(decide (g.Pages.length=8)&&g.Pages.all M.slotOk)<;>cases M.rowOk g.In<;>rfl)
theorem bCt{gs:List DGuest}(hl:gs.length<=1048576)(h:∀g∈gs,SmallG g):pL gs=some (decide (gs.length=3)&&gs.all M.guestOk):=by
 unfold pL;by_cases hl:gs.length=3
 · have:decide (((gs.length:Nat):Int)=3)=true:=by simp;omega
   rw[this,bT,cFq,dT hl,Bool.true_and]
   have key:=(tD (xs:=gs) (σ:=Unit) (step:=lU gs) (λ_ k=>k) M.guestOk (λ_ _=>()) (λ_=>JO.go ()) (.out false) (λ_ _=>True) (λi x s h1 h2 h3 h4=>by
    refine⟨?_,λ_=>trivial⟩;simp only[lU,dT h1,cTq];rw[aA ⟨by omega,h1⟩,iT,h3];show Option.bind (nA x) _=_;rw[bFq (h x h2),oB,aJ (by omega) (by omega)];cases M.guestOk x<;>rfl) (λs _=>by
    simp only[lU];rw[dF (by omega),cFq]) () trivial).1
   rw[key];cases gs.all M.guestOk<;>rfl
 {have:decide (((gs.length:Nat):Int)=3)=false:=(by simp;omega);rw[this,dF hl];rfl}
theorem vF{xs:List Int}{i j:Nat}{v:Int}(hi:i<xs.length):(xs.set i v).getD j default=if i=j then v else xs.getD j default:=by by_cases h:i=j;{subst h;simp[List.getD,hi]};{simp[List.getD,List.getElem?_set,h]}
theorem aXh{xs:List Int}{s:DSlot}:(M.bump xs s).length=xs.length:=by unfold M.bump;cases decide (s.Frame=-1)<;>simp
theorem kL{s:DSlot}(h:M.slotOk s=true):-1<=s.Frame/\s.Frame<20:=by unfold M.slotOk at h;by_cases e:s.Frame=-1;{omega};{rw[dF e,cFq,bA,decide_eq_true_eq,decide_eq_true_eq]at h;omega}
theorem aWy{xs:List Int}{s:DSlot}(hl:xs.length=20)(h:M.slotOk s=true){f:Nat}(hf:f<20):(M.bump xs s).getD f default=xs.getD f default+(if s.Frame=(f:Int)then 1 else 0):=by have hr:=kL h;unfold M.bump;by_cases e:s.Frame=-1;{rw[dT e,cTq,if_neg (by omega)];omega};{rw[dF e,cFq,vF (by omega)];by_cases e2:s.Frame=(f:Int);{rw[if_pos (by omega),if_pos e2];congr 2;omega};{rw[if_neg (by omega),if_neg e2];omega}}
theorem wP{s:DSlot}{ss:List DSlot}{f:Int}:M.many (s::ss) f=M.many ss f+(if s.Frame=f then 1 else 0):=by simp only[M.many,List.countP_cons,decide_eq_true_eq]
theorem aGd{f:Nat}(hf:f<20):∀{ss:List DSlot} {xs:List Int},xs.length=20->ss.all M.slotOk=true->(ss.foldl M.bump xs).length=20/\(ss.foldl M.bump xs).getD f default=xs.getD f default+(M.many ss f:Int)
 |[],xs,hl,_=>⟨hl,by simp[M.many]⟩
 |s::ss,xs,hl,h=>by rw[List.all_cons,bA]at h;obtain⟨h1,h2⟩:=aGd hf (ss:=ss) (xs:=M.bump xs s) (by rw[aXh,hl]) h.2;refine⟨h1,?_⟩;rw[List.foldl_cons,h2,aWy hl h.1 hf,wP];split<;>simp<;>omega
theorem qT{ss:List DSlot}(h:ss.all M.slotOk=true):(M.takers ss).length=20:=(aGd (f:=0) (by omega) (xs:=List.replicate 20 0) (by simp) h).1
theorem uM{ss:List DSlot}(h:ss.all M.slotOk=true){f:Nat}(hf:f<20):(M.takers ss).getD f default=(M.many ss f:Int):=by unfold M.takers;rw[(aGd (f:=f) hf (xs:=List.replicate 20 0) (by simp) h).2];have:(List.replicate 20 (0:Int)).getD f default=0:=(by rw[cE (by rw[List.length_replicate];omega),List.getElem_replicate]);omega
theorem mK{g:DGuest}(h:M.guestOk g=true):g.Pages.all M.slotOk=true/\g.Pages.length<=8:=by unfold M.guestOk at h;(cases hl:g.Live with|true=>rw[hl,cTq]at h;simp only[bA,decide_eq_true_eq]at h;exact⟨h.1.1.2.2,by omega⟩|false=>rw[hl,cFq,decide_eq_true_eq]at h;rw[h];exact⟨rfl,by simp[M.noGuest]⟩)
theorem tW{gs:List DGuest}(h:gs.all M.guestOk=true):(M.slots gs).all M.slotOk=true:=by simp only[M.slots,List.all_flatMap,List.all_eq_true]at h ⊢;exact λg hg=>List.all_eq_true.1 (mK (h g hg)).1
structure Tl (B : Nat) (xs : List Int) : Prop where
 len:xs.length=20
 low:∀i,i<20->0<=xs.getD i default
 top:∀i,i<20->xs.getD i default<=(B:Int)
theorem Tl.mono{B C:Nat}{xs:List Int}(h:Tl B xs)(hB:B<=C):Tl C xs:=⟨h.len,h.low,λi hi=>by have:=h.top i hi;omega⟩
theorem Tl.bump{B:Nat}{xs:List Int}{s:DSlot}(h:Tl B xs)(hs:M.slotOk s=true):Tl (B+1) (M.bump xs s):=by refine⟨by rw[aXh,h.len],λi hi=>?_,λi hi=>?_⟩;all_goals rw[aWy h.len hs hi];have:=h.low i hi;have:=h.top i hi;split<;>omega
theorem Tl.zero:Tl 0 (List.replicate 20 0):=by refine⟨by simp,λi hi=>?_,λi hi=>?_⟩;all_goals rw[cE (by rw[List.length_replicate];omega),List.getElem_replicate];omega
theorem bDk{xs:List DSlot}(h:xs.length<=1048576):qW xs=some xs:=by
 have key:=aHs (xs:=xs) (ys:=List.replicate (Int.toNat (xs.length:Int)) (DSlot.mk 0 false false)) (step:=mT xs) (by simp) (λk zs hk hz=>by
  have h1:(k:Int)<(xs.length:Int):=(by omega);simp only[mT,dT h1,cTq,hz];rw[aA ⟨by omega,h1⟩,iT];show Option.bind (some (xs.getD k default)) _=_;rw[oB,aA ⟨by omega,h1⟩,aJ (by omega) (by omega)]) (λzs hz=>by
  simp only[mT];rw[dF (by omega),cFq])
 unfold qW;rw[aA ⟨by omega,by omega,by omega⟩,key];rfl
theorem bCw{g:DGuest}(h:SmallG g):nJ g=some g:=by unfold nJ;rw[bEt h.c,bDk h.pages,vX h.i,vX h.o];rfl
theorem aYe{xs:List DGuest}(h:xs.length<=1048576)(hs:∀g∈xs,SmallG g):pI xs=some xs:=by
 have key:=aHs (xs:=xs) (ys:=List.replicate (Int.toNat (xs.length:Int)) (DGuest.mk false (DCore.mk ([]:List Int) (0:Int) (0:Int) (0:Int) (0:Int) false (0:Int) (0:Int) (0:Int) false false false false) ([]:List DSlot) ([]:List Int) ([]:List Int))) (step:=mD xs) (by simp) (λk zs hk hz=>by
  have h1:(k:Int)<(xs.length:Int):=(by omega);simp only[mD,dT h1,cTq,hz];rw[aA ⟨by omega,h1⟩,iT];show Option.bind (nJ (xs.getD k default)) _=_;rw[bCw (hs _ (dS hk)),oB,aA ⟨by omega,h1⟩,aJ (by omega) (by omega)]) (λzs hz=>by
  simp only[mD];rw[dF (by omega),cFq])
 unfold pI;rw[aA ⟨by omega,by omega,by omega⟩,key];rfl
theorem aRq{h:DHost}(hs:SmallH h):dW h=some h:=by unfold dW;rw[vX hs.words,aYe hs.guests hs.all];rfl
theorem bFw{a b:DSlot}:oJ a b=some (decide (a=b)):=by obtain⟨f,w,d⟩:=a;obtain⟨f',w',d'⟩:=b;unfold oJ;simp only[DSlot.mk.injEq];by_cases h:f=f'<;>cases w<;>cases w'<;>cases d<;>cases d'<;>simp[h]
theorem bBo{xs ys:List DSlot}(h:xs.length<=9223372036854775806):qH xs ys=some (decide (xs=ys)):=by
 unfold qH;by_cases hl:xs.length=ys.length
 · obtain⟨b,h1,h2⟩:=aZa (xs:=xs) (ys:=ys) (step:=mR xs ys) (d:=λx y=>decide (x=y)) (λx _ y=>decide_eq_true_iff) hl (λi hi _=>by
    have e1:(i:Int)<(xs.length:Int):=(by omega);simp only[mR,dT e1,cTq];rw[aA ⟨by omega,e1⟩,aA ⟨by omega,by omega⟩,iT];show Option.bind (oJ (xs.getD i default) (ys.getD i default)) _=_;rw[bFw,oB,aJ (by omega) (by omega)];cases decide (xs.getD i default=ys.getD i default)<;>rfl) (by
    simp only[mR];rw[dF (by omega),cFq])
   rw[h1,dT (by omega)];have e:decide (xs=ys)=b:=(by rw[Bool.eq_iff_iff,decide_eq_true_iff];exact h2.symm);rw[e];cases b<;>rfl
 {rw[dF (by omega),dF (λe=>hl (by rw[e]))];rfl}
theorem bCj{a b:DGuest}(h:SmallG a):nD a b=some (decide (a=b)):=by have:=h.c.regs;have:=h.pages;have:=h.i;have:=h.o;unfold nD;rw[bFo (by omega),bBo (by omega),wQ (by omega),wQ (by omega)];obtain⟨l,c,p,i,o⟩:=a;obtain⟨l',c',p',i',o'⟩:=b;simp only[oB,DGuest.mk.injEq];by_cases h1:c=c'<;>by_cases h2:p=p'<;>by_cases h3:i=i'<;>by_cases h4:o=o'<;>cases l<;>cases l'<;>simp[*]
theorem aYk{xs ys:List DGuest}(h:xs.length<=1048576)(hs:∀g∈xs,SmallG g):pH xs ys=some (decide (xs=ys)):=by
 unfold pH;by_cases hl:xs.length=ys.length
 · obtain⟨b,h1,h2⟩:=aZa (xs:=xs) (ys:=ys) (step:=lZ xs ys) (d:=λx y=>decide (x=y)) (λx _ y=>decide_eq_true_iff) hl (λi hi hm=>by
    have e1:(i:Int)<(xs.length:Int):=(by omega);simp only[lZ,dT e1,cTq];rw[aA ⟨by omega,e1⟩,aA ⟨by omega,by omega⟩,iT];show Option.bind (nD (xs.getD i default) (ys.getD i default)) _=_;rw[bCj (hs _ hm),oB,aJ (by omega) (by omega)];cases decide (xs.getD i default=ys.getD i default)<;>rfl) (by
    simp only[lZ];rw[dF (by omega),cFq])
   rw[h1,dT (by omega)];have e:decide (xs=ys)=b:=(by rw[Bool.eq_iff_iff,decide_eq_true_iff];exact h2.symm);rw[e];cases b<;>rfl
 {rw[dF (by omega),dF (λe=>hl (by rw[e]))];rfl}
theorem aAz{a b:DHost}(h:SmallH a):dV a b=some (decide (a=b)):=by have:=h.words;unfold dV;rw[wQ (by omega),aYk h.guests h.all];obtain⟨w,g⟩:=a;obtain⟨w',g'⟩:=b;simp only[oB,DHost.mk.injEq];by_cases h1:w=w'<;>by_cases h2:g=g'<;>simp[*]
theorem bEd{xs:List DSlot}{left:Int}(h:xs.length<=9223372036854775807)(h0:0<=left)(h1:left<=1048576):rA xs left=some (if(xs.length:Int)<=left then left-xs.length else-1):=by unfold rA;rw[aJ (by omega) (by omega)];by_cases hl:(xs.length:Int)<=left;{rw[dF (by omega),if_pos hl];rfl};{rw[dT (by omega),if_neg hl];rfl}
structure FitG (g : DGuest) : Prop where
 c:g.C.Regs.length<=9223372036854775807
 pages:g.Pages.length<=9223372036854775807
 i:g.In.length<=9223372036854775807
 o:g.Out.length<=9223372036854775807
theorem bDg{g:DGuest}{left:Int}(h:FitG g)(h0:0<=left)(h1:left<=1048576):∃v,mX g left=some v/\(v<0\/(0<=v/\v<=left/\SmallG g)):=by have:=h.c;have:=h.pages;have:=h.i;have:=h.o;unfold mX;rw[bHp (by omega) h0 h1];simp only[oB];split;{rename_i e1;rw[dF (by omega),cFq,bEd (by omega) (by omega) (by omega)];simp only[oB];split;{rename_i e2;rw[dF (by omega),cFq,aAv (by omega) (by omega) (by omega)];simp only[oB];split;{rename_i e3;rw[dF (by omega),cFq,aAv (by omega) (by omega) (by omega)];simp only[oB];split;{rename_i e4;rw[dF (by omega),cFq];exact⟨_,rfl,.inr ⟨by omega,by omega,⟨by omega⟩,by omega,by omega,by omega⟩⟩};{exact⟨-1,rfl,.inl (by omega)⟩}};{exact⟨-1,rfl,.inl (by omega)⟩}};{exact⟨-1,rfl,.inl (by omega)⟩}};{exact⟨-1,rfl,.inl (by omega)⟩}
theorem aYb{xs:List DGuest}{left:Int}(hl:xs.length<=9223372036854775807)(h:∀g∈xs,FitG g)(h0:0<=left)(h1:left<=1048576):∃v,pE xs left=some v/\(v<0\/(0<=v/\v<=left/\xs.length<=1048576/\∀g∈xs,SmallG g)):=by
 unfold pE;rw[aJ (by omega) (by omega)];by_cases e:left-(xs.length:Int)<0;{rw[dT e];exact⟨-1,rfl,.inl (by omega)⟩}
 · rw[dF e,cFq]
   have key:∀(suf pre:List DGuest) (q:Int),xs=pre++suf->0<=q->q<=left->∃j:JO Int Int,iter (iZ xs) (q,(pre.length:Int))=some (.ret j)/\(j= .out (-1)\/∃v,j= .go v/\0<=v/\v<=q/\∀g∈suf,SmallG g):=by
    intro suf;induction suf with
    |nil=>intro pre q hx hq _;rw[List.append_nil]at hx;refine⟨.go q,?_,.inr ⟨q,rfl,hq,Int.le_refl _,by simp⟩⟩;rw[eH];simp only[iZ];rw[dF (by rw[hx];omega),cFq]
    |cons x suf ih=>intro pre q hx hq hq1;have e1:((pre.length:Nat):Int)<(xs.length:Int):=(by rw[hx];simp;omega);have e2:xs.getD pre.length default=x:=(by rw[hx];exact aLa);obtain⟨v,g1,g2⟩:=bDg (h x (by rw[hx];simp)) hq (by omega);have st:iZ xs (q,(pre.length:Int))=cond (decide (v<0)) (some (.ret (.out (-1)))) (some (.next (v,(pre.length:Int)+1))):=(by simp only[iZ,dT e1,cTq];rw[aA ⟨by omega,e1⟩,iT,e2];show Option.bind (mX x q) _=_;rw[g1,oB,aJ (by omega) (by omega)]);rw[eH,st];rcases g2 with g2|⟨g2,g3,g4⟩;{rw[dT g2];exact⟨_,rfl,.inl rfl⟩};{rw[dF (by omega),cFq];obtain⟨j,k1,k2⟩:=ih (pre++[x]) v (by rw[hx];simp) g2 (by omega);simp only[List.length_append,List.length_cons,List.length_nil,Nat.zero_add,Int.natCast_add]at k1;refine⟨j,k1,k2.imp id λ⟨u,u1,u2,u3,u4⟩=>⟨u,u1,u2,by omega,λg hg=>?_⟩⟩;rcases List.mem_cons.1 hg with rfl|hg;{exact g4};{exact u4 g hg}}
   obtain⟨j,k1,k2⟩:=key xs [] (left-xs.length) rfl (by omega) (by omega);rw[show((([]:List DGuest).length:Nat):Int)=0 from rfl]at k1;rw[k1];rcases k2 with rfl|⟨v,rfl,k3,k4,k5⟩;{exact⟨-1,rfl,.inl (by omega)⟩};{exact⟨v,rfl,.inr ⟨k3,by omega,by omega,k5⟩⟩}
structure FitH (h : DHost) : Prop where
 words:h.Words.length<=9223372036854775807
 guests:h.Guests.length<=9223372036854775807
 all:∀g∈h.Guests,FitG g
theorem aQz{h:DHost}{left:Int}(hf:FitH h)(h0:0<=left)(h1:left<=1048576):∃v,lP h left=some v/\(v<0\/(0<=v/\v<=left/\SmallH h)):=by unfold lP;rw[aAv hf.words h0 h1];simp only[oB];split;{rename_i e1;rw[dF (by omega),cFq];obtain⟨v,g1,g2⟩:=aYb hf.guests hf.all (left:=left-h.Words.length) (by omega) (by omega);rw[g1,oB];rcases g2 with g2|⟨g2,g3,g4,g5⟩;{rw[dT g2];exact⟨-1,rfl,.inl (by omega)⟩};{rw[dF (by omega),cFq];exact⟨v,rfl,.inr ⟨g2,by omega,by omega,g4,g5⟩⟩}};{exact⟨-1,rfl,.inl (by omega)⟩}
def dec(w:Int):DEntry:=⟨decide (w%2=1),decide (w/2%2=1),decide (w/4%2=1),w/8%8⟩
theorem aUq(w:Int):0<=(dec w).Page/\(dec w).Page<=7:=by simp only[dec];omega
theorem fZ{w k:Int}(h0:0<=w)(h1:w<=4095)(hk:1<=k):w64 (Int.tdiv w k)=w/k/\0<=w/k:=by have e:Int.tdiv w k=w/k:=Int.tdiv_eq_ediv_of_nonneg h0;have g0:0<=w/k:=Int.ediv_nonneg h0 (by omega);have g1:w/k<=w:=Int.ediv_le_self k h0;rw[e,aJ (by omega) (by omega)];exact⟨rfl,g0⟩
theorem aYj{w:Int}(h0:0<=w)(h1:w<=4095):nS w=some (dec w):=by unfold nS;rw[aEs,show M.wordOk w=true from M.inR_iff.2 ⟨h0,h1⟩];simp only[oB,bT,cFq];rw[(fZ h0 h1 (k:=1) (by omega)).1,(fZ h0 h1 (k:=2) (by omega)).1,(fZ h0 h1 (k:=4) (by omega)).1,(fZ h0 h1 (k:=8) (by omega)).1,iM (fZ h0 h1 (k:=1) (by omega)).2,iM (fZ h0 h1 (k:=2) (by omega)).2,iM (fZ h0 h1 (k:=4) (by omega)).2,iM (fZ h0 h1 (k:=8) (by omega)).2,Int.ediv_one];rfl
theorem aXz{w:Int}(h0:0<=w)(h1:w<=4095):nP w=some (dec w):=by unfold nP;rw[vI,show M.wordOk w=true from M.inR_iff.2 ⟨h0,h1⟩];simp only[oB,bT,cFq];rw[(fZ h0 h1 (k:=2) (by omega)).1,(fZ h0 h1 (k:=4) (by omega)).1,(fZ h0 h1 (k:=8) (by omega)).1,iM h0,iM (fZ h0 h1 (k:=2) (by omega)).2,iM (fZ h0 h1 (k:=4) (by omega)).2,iM (fZ h0 h1 (k:=8) (by omega)).2];rfl
namespace M
def lets(e:DEntry)(user write:Bool):Bool:=e.There&&(e.Write||!write)&&(e.User||!user)
def walk(mem:List Int)(root addr:Int)(user write:Bool):Int:=
 bif memOk mem&&inR (-1) 7 root&&inR 0 63 addr then
  bif decide (root=-1)then addr else
   bif lets (dec (mem.getD (root*8+addr/8).toNat default)) user write then(dec (mem.getD (root*8+addr/8).toNat default)).Page*8+addr%8 else-1
 else-1
end M
theorem aKl{xs:List Int}(h:M.memOk xs=true):M.wordsOk xs=true:=(bA _ _▸h).2
theorem bBu(mem:List Int)(root addr:Int)(user write:Bool):M.walk mem root addr user write=-1\/
 (M.memOk mem=true/\(-1<=root/\root<=7)/\(0<=addr/\addr<=63)/\0<=M.walk mem root addr user write/\M.walk mem root addr user write<64/\M.walk mem root addr false false=M.walk mem root addr user write/\M.walk mem root addr user false=M.walk mem root addr user write/\M.walk mem root (addr-addr%8) user write=M.walk mem root addr user write-addr%8):=by
 by_cases hm:M.memOk mem=true
 · by_cases hr:M.inR (-1) 7 root=true
   · by_cases ha:M.inR 0 63 addr=true
     · have hr2:=M.inR_iff.1 hr
       have ha2:=M.inR_iff.1 ha;have hb:M.inR 0 63 (addr-addr%8)=true:=M.inR_iff.2 ⟨by omega,by omega⟩;by_cases h1:root=-1
       · have e:∀u w,M.walk mem root addr u w=addr:=λu w=>by simp only[M.walk,hm,hr,ha,dT h1,Bool.and_self,cTq]
         have e':∀u w,M.walk mem root (addr-addr%8) u w=addr-addr%8:=λu w=>by simp only[M.walk,hm,hr,hb,dT h1,Bool.and_self,cTq]
         rw[e,e,e,e'];exact .inr ⟨hm,hr2,ha2,by omega,by omega,rfl,rfl,rfl⟩
       · have e:∀u w,M.walk mem root addr u w=(bif M.lets (dec (mem.getD (root*8+addr/8).toNat default)) u w then(dec (mem.getD (root*8+addr/8).toNat default)).Page*8+addr%8 else-1):=λu w=>by
          simp only[M.walk,hm,hr,ha,dF h1,Bool.and_self,cTq,cFq]
         have e':∀u w,M.walk mem root (addr-addr%8) u w=(bif M.lets (dec (mem.getD (root*8+addr/8).toNat default)) u w then(dec (mem.getD (root*8+addr/8).toNat default)).Page*8 else-1):=λu w=>by simp only[M.walk,hm,hr,hb,dF h1,Bool.and_self,cTq,cFq];rw[show(addr-addr%8)/8=addr/8 by omega,show(addr-addr%8)%8=0 by omega];simp
         rw[e,e,e,e'];have hp:=aUq (mem.getD (root*8+addr/8).toNat default);generalize dec (mem.getD (root*8+addr/8).toNat default)=x at hp ⊢;(cases hx:M.lets x user write with|false=>exact .inl rfl|true=>have h2:M.lets x false false=true:=(by simp only[M.lets,bA,Bool.or_eq_true,bF,Bool.or_true,and_true]at hx ⊢;exact hx.1.1);have h3:M.lets x user false=true:=(by simp only[M.lets,bA,Bool.or_eq_true,bF,Bool.or_true,and_true]at hx ⊢;exact⟨hx.1.1,hx.2⟩);rw[h2,h3];simp only[cTq];exact .inr ⟨hm,hr2,ha2,by omega,by omega,by first|trivial|rfl,by first|trivial|rfl,by omega⟩)
     {exact .inl (by simp only[M.walk,Bool.eq_false_iff.2 ha,Bool.and_false,cFq])}
   {exact .inl (by simp only[M.walk,Bool.eq_false_iff.2 hr,Bool.and_false,Bool.false_and,cFq])}
 {exact .inl (by simp only[M.walk,Bool.eq_false_iff.2 hm,Bool.false_and,cFq])}
theorem aCs(mem:List Int)(root addr:Int)(user write:Bool)(h:¬M.walk mem root addr user write=-1):0<=M.walk mem root addr user write/\M.walk mem root addr user write<64:=by rcases bBu mem root addr user write with h1|⟨_,_,_,h2,h3,_⟩;{exact absurd h1 h};{exact⟨h2,h3⟩}
namespace M
def insOk(x:DIns):Bool:=inR 0 15 x.Op&&inR 0 3 x.A&&inR 0 63 x.N
end M
theorem aYz(x:DIns):uF x=some (M.insOk x):=by unfold uF;rw[rX,rX,rX];simp only[oB,M.insOk];cases M.inR 0 15 x.Op<;>cases M.inR 0 3 x.A<;>cases M.inR 0 63 x.N<;>rfl
theorem aVm{T:Type}{xs ys:List T}(h:xs.length=ys.length):over xs 0 xs.length ys=ys:=by simp only[over,h,Nat.min_self,List.take_length,Nat.zero_add,List.take_zero,List.nil_append];rw[List.drop_eq_nil_of_le (by omega),List.append_nil]
theorem kO{xs:List Int}(h:xs.length<=1048576):dQ xs=some xs:=by unfold dQ;rw[aA ⟨by omega,by omega,by omega⟩,aVm (by simp)]
theorem bEu{c:DCore}(h:SmallC c):lQ c=some c:=by have:=h.regs;unfold lQ;rw[aA ⟨by simp;omega,by simp;omega⟩];rfl
namespace M
def reg(c:DCore)(k:Int):Int:=c.Regs.getD k.toNat default
def trap(c:DCore)(src cause bad:Int):DCore:=⟨c.Regs,c.Vector,c.Root,c.Vector,src,c.User,cause,bad,c.Timer,c.Waits,false,false,c.Stopped⟩
def tick(c:DCore):DCore:=bif decide (c.Timer=0)then c else⟨c.Regs,c.Pc,c.Root,c.Vector,c.Saved,c.SavedUser,c.Cause,c.Bad,c.Timer-1,(bif decide (c.Timer-1=0)then true else c.Waits),c.User,c.On,c.Stopped⟩
def ins(w:Int):DIns:=⟨w/256,w/64%4,w%64⟩
def kern(op:Int):Bool:=decide (op=0)||inR 8 14 op
def at_(c:DCore)(pc:Int):DCore:=⟨c.Regs,pc,c.Root,c.Vector,c.Saved,c.SavedUser,c.Cause,c.Bad,c.Timer,c.Waits,c.User,c.On,c.Stopped⟩
def go(c:DCore):DCore:=at_ c ((c.Pc+1)%64)
def put(c:DCore)(a w:Int):DCore:=⟨c.Regs.set a.toNat w,c.Pc,c.Root,c.Vector,c.Saved,c.SavedUser,c.Cause,c.Bad,c.Timer,c.Waits,c.User,c.On,c.Stopped⟩
def with_(b:DBare)(c:DCore):DBare:=⟨c,b.Mem,b.In,b.Out⟩
def root(w:Int):Int:=bif decide (w%16<8)then w%16 else-1
def first(xs:List Int):Int:=xs.getD 0 default
def cin(b:DBare)(k:Int):Int:=bif decide (k=1)then b.C.Cause else bif decide (k=2)then b.C.Bad else bif decide (k=3)then b.C.Saved else first b.In
def rest(xs:List Int)(k:Int):List Int:=bif decide (k=0)then xs.drop 1 else xs
def kdo(b:DBare)(i:DIns):DBare:=
 bif decide (i.Op=0)then with_ b ⟨b.C.Regs,b.C.Pc,b.C.Root,b.C.Vector,b.C.Saved,b.C.SavedUser,b.C.Cause,b.C.Bad,b.C.Timer,b.C.Waits,b.C.User,b.C.On,true⟩
 else bif decide (i.Op=8)then with_ b (go ⟨b.C.Regs,b.C.Pc,root (reg b.C i.A),b.C.Vector,b.C.Saved,b.C.SavedUser,b.C.Cause,b.C.Bad,b.C.Timer,b.C.Waits,b.C.User,b.C.On,b.C.Stopped⟩)
 else bif decide (i.Op=9)then with_ b (go ⟨b.C.Regs,b.C.Pc,b.C.Root,reg b.C i.A%64,b.C.Saved,b.C.SavedUser,b.C.Cause,b.C.Bad,b.C.Timer,b.C.Waits,b.C.User,b.C.On,b.C.Stopped⟩)
 else bif decide (i.Op=10)then with_ b (go ⟨b.C.Regs,b.C.Pc,b.C.Root,b.C.Vector,b.C.Saved,b.C.SavedUser,b.C.Cause,b.C.Bad,reg b.C i.A,b.C.Waits,b.C.User,b.C.On,b.C.Stopped⟩)
 else bif decide (i.Op=11)then with_ b ⟨b.C.Regs,b.C.Saved,b.C.Root,b.C.Vector,b.C.Saved,b.C.SavedUser,b.C.Cause,b.C.Bad,b.C.Timer,b.C.Waits,b.C.SavedUser,true,b.C.Stopped⟩
 else bif decide (i.Op=12)then with_ b (go ⟨b.C.Regs,b.C.Pc,b.C.Root,b.C.Vector,b.C.Saved,b.C.SavedUser,b.C.Cause,b.C.Bad,b.C.Timer,b.C.Waits,b.C.User,decide (i.N%2=1),b.C.Stopped⟩)
 else bif decide (i.Op=13)then⟨go b.C,b.Mem,b.In,bif decide (b.Out.length<30)then b.Out++[reg b.C i.A]else b.Out⟩
 else⟨go (put b.C i.A (cin b (i.N%4))),b.Mem,rest b.In (i.N%4),b.Out⟩
def plain(c:DCore)(i:DIns):DCore:=
 bif decide (i.Op=1)then go (put c i.A i.N)
 else bif decide (i.Op=2)then go (put c i.A ((reg c i.A+reg c (i.N%4))%4096))
 else bif decide (i.Op=15)then go (put c i.A ((reg c i.A-reg c (i.N%4)+4096)%4096))
 else bif decide (i.Op=5)then at_ c i.N
 else bif decide (i.Op=6)then bif decide (reg c i.A=0)then go c else at_ c i.N
 else trap c ((c.Pc+1)%64) 1 0
def mdo(b:DBare)(i:DIns):DBare:=
 bif decide (walk b.Mem b.C.Root (reg b.C (i.N%4)%64) b.C.User (decide (i.Op=4))=-1)then with_ b (trap b.C b.C.Pc 2 (reg b.C (i.N%4)%64))
 else bif decide (i.Op=3)then with_ b (go (put b.C i.A (b.Mem.getD (walk b.Mem b.C.Root (reg b.C (i.N%4)%64) b.C.User false).toNat default)))
 else⟨go b.C,b.Mem.set (walk b.Mem b.C.Root (reg b.C (i.N%4)%64) b.C.User true).toNat (reg b.C i.A),b.In,b.Out⟩
def did(b:DBare)(i:DIns):DBare:=
 bif kern i.Op then bif b.C.User then with_ b (trap b.C b.C.Pc 3 0)else kdo b i
 else bif decide (i.Op=3)||decide (i.Op=4)then mdo b i else with_ b (plain b.C i)
def quiet(c:DCore):DCore:=⟨c.Regs,c.Pc,c.Root,c.Vector,c.Saved,c.SavedUser,c.Cause,c.Bad,c.Timer,false,c.User,c.On,c.Stopped⟩
def step(b:DBare):DBare:=
 bif b.C.Stopped then b
 else bif (tick b.C).Waits&&(tick b.C).On then with_ b (trap (quiet (tick b.C)) (tick b.C).Pc 4 0)
 else bif decide (walk b.Mem (tick b.C).Root (tick b.C).Pc (tick b.C).User false=-1)then with_ b (trap (tick b.C) (tick b.C).Pc 2 (tick b.C).Pc)
 else did (with_ b (tick b.C)) (ins (b.Mem.getD (walk b.Mem (tick b.C).Root (tick b.C).Pc (tick b.C).User false).toNat default))
end M
theorem bMl(x:DIns):uO x=some (M.insOk x):=by unfold uO;simp only[M.insOk,M.inR];rw[show(4:Int)=3+1 from rfl,show(64:Int)=63+1 from rfl,aSw,aSw];cases decide (0<=x.Op)<;>cases decide (0<=x.A)<;>cases decide (0<=x.N)<;>cases decide (x.Op<=15)<;>cases decide (x.A<=3)<;>cases decide (x.N<=63)<;>rfl
theorem zD{k:Int}(h0:0<=k)(h1:k<=15):k=0\/k=1\/k=2\/k=3\/k=4\/k=5\/k=6\/k=7\/k=8\/k=9\/k=10\/k=11\/k=12\/k=13\/k=14\/k=15:=by omega
theorem aJt{x:DIns}(h:M.insOk x=true):kT x=some (M.kern x.Op):=by unfold kT;rw[bMl,h];obtain⟨op,a,n⟩:=x;simp only[M.insOk,bA,M.inR_iff]at h;rcases zD h.1.1.1 h.1.1.2 with e|e|e|e|e|e|e|e|e|e|e|e|e|e|e|e<;>subst e<;>rfl
theorem aBl{x:DIns}(h:M.insOk x=true):dD x=some (M.kern x.Op):=by unfold dD;rw[aYz,h,rX];simp only[oB,cTq,M.kern];cases decide (x.Op=0)<;>rfl
theorem aRr{w:Int}(h0:0<=w)(h1:w<=4095):nI w=some (M.ins w):=by unfold nI;rw[aEs,show M.wordOk w=true from M.inR_iff.2 ⟨h0,h1⟩];simp only[oB,bT,cFq];rw[(fZ h0 h1 (k:=256) (by omega)).1,(fZ h0 h1 (k:=64) (by omega)).1,iM (fZ h0 h1 (k:=64) (by omega)).2,iM h0];rfl
theorem aRe{w:Int}(h0:0<=w)(h1:w<=4095):kQ w=some (M.ins w):=by unfold kQ;rw[vI,show M.wordOk w=true from M.inR_iff.2 ⟨h0,h1⟩];simp only[oB,bT,cFq];rw[(fZ h0 h1 (k:=256) (by omega)).1,(fZ h0 h1 (k:=64) (by omega)).1,iM (fZ h0 h1 (k:=64) (by omega)).2,iM h0];rfl
theorem aGb{w:Int}(h0:0<=w)(h1:w<=4095):M.insOk (M.ins w)=true:=by simp only[M.insOk,M.ins,bA,M.inR_iff];omega
def M.insKernel(x:DIns):Bool:=M.insOk x&&M.kern x.Op
theorem aWt(x:DIns):dD x=some (M.insKernel x):=by
 (cases h:M.insOk x with|true=>rw[aBl h];unfold M.insKernel;rw[h];rfl|false=>unfold dD M.insKernel;rw[aYz,h];rfl)
structure BOk (b : DBare) : Prop where
 regs:b.C.Regs.length=4
 words:M.wordsOk b.C.Regs=true
 pc:0<=b.C.Pc/\b.C.Pc<=63
 vec:0<=b.C.Vector/\b.C.Vector<=63
 sav:0<=b.C.Saved/\b.C.Saved<=63
 bad:0<=b.C.Bad/\b.C.Bad<=63
 root:-1<=b.C.Root/\b.C.Root<=7
 cause:0<=b.C.Cause/\b.C.Cause<=4
 timer:0<=b.C.Timer/\b.C.Timer<=4095
 mem:M.memOk b.Mem=true
 inn:b.In.length<=30
 inw:M.wordsOk b.In=true
 out:b.Out.length<=30
 outw:M.wordsOk b.Out=true
theorem aYw{b:DBare}:M.bareOk b=true↔BOk b:=by
 simp only[M.bareOk,M.coreOk,M.rowOk,M.wordOk,bA,decide_eq_true_eq,M.inR_iff];constructor
 · rintro⟨⟨⟨⟨⟨⟨⟨⟨a1,a2⟩,⟨⟨a3,a4⟩,a5⟩,a6⟩,a7⟩,a8⟩,a9⟩,a10⟩,a11,a12⟩,a13,a14⟩
   exact⟨a1,a2,a3,a4,a5,a6,a7,a8,a9,a10,a11,a12,a13,a14⟩
 · rintro⟨a1,a2,a3,a4,a5,a6,a7,a8,a9,a10,a11,a12,a13,a14⟩
   exact⟨⟨⟨⟨⟨⟨⟨⟨a1,a2⟩,⟨⟨a3,a4⟩,a5⟩,a6⟩,a7⟩,a8⟩,a9⟩,a10⟩,a11,a12⟩,a13,a14⟩
theorem BOk.len{b:DBare}(h:BOk b):b.Mem.length=64:=bHq h.mem
theorem BOk.reg{b:DBare}(h:BOk b){k:Int}(h0:0<=k)(h1:k<4):0<=M.reg b.C k/\M.reg b.C k<=4095:=iQ h.words (by have:=h.regs;omega)
structure KOk (b : DBare) : Prop where
 regs:b.C.Regs.length=4
 words:M.wordsOk b.C.Regs=true
 pc:0<=b.C.Pc/\b.C.Pc<=63
 vec:0<=b.C.Vector/\b.C.Vector<=63
 sav:0<=b.C.Saved/\b.C.Saved<=63
 bad:0<=b.C.Bad/\b.C.Bad<=63
 root:-1<=b.C.Root/\b.C.Root<=7
 cause:0<=b.C.Cause/\b.C.Cause<=4
 timer:0<=b.C.Timer/\b.C.Timer<=4095
 inn:b.In.length<=30
 inw:M.wordsOk b.In=true
 out:b.Out.length<=30
 outw:M.wordsOk b.Out=true
theorem BOk.k{b:DBare}(h:BOk b):KOk b:=⟨h.regs,h.words,h.pc,h.vec,h.sav,h.bad,h.root,h.cause,h.timer,h.inn,h.inw,h.out,h.outw⟩
theorem KOk.reg{b:DBare}(h:KOk b){k:Int}(h0:0<=k)(h1:k<4):0<=M.reg b.C k/\M.reg b.C k<=4095:=iQ h.words (by have:=h.regs;omega)
theorem KOk.to{b b':DBare}(h:KOk b)(h1:b'.C=b.C)(h2:b'.In=b.In)(h3:b'.Out=b.Out):KOk b':=by obtain⟨c,m,i,o⟩:=b';simp only at h1 h2 h3;subst h1 h2 h3;exact⟨h.regs,h.words,h.pc,h.vec,h.sav,h.bad,h.root,h.cause,h.timer,h.inn,h.inw,h.out,h.outw⟩
section
variable {b : DBare} {op a n : Int}
theorem KOk.gA(hb:KOk b)(h0:0<=a)(h1:a<=3):0<=a/\a<((b.C.Regs.length:Nat):Int):=by have:=hb.regs;omega
theorem aDd(h0:0<=n):Int.tmod n 4=n%4:=iM h0
theorem aKf(hb:KOk b)(h0:0<=n):eF b.C ⟨op,a,n⟩=some (M.reg b.C (n%4)%64):=by unfold eF;simp only[aDd h0];rw[aA (hb.gA (by omega) (by omega)),show b.C.Regs.getD (n%4).toNat default=M.reg b.C (n%4)from rfl,iM (hb.reg (by omega) (by omega)).1]
end
theorem aXx{c:DCore}(h0:0<=c.Timer)(h1:c.Timer<=4095):jR c=some (M.tick c):=by unfold jR M.tick yU;rw[aJ (z:=c.Timer-1) (by omega) (by omega)];cases decide (c.Timer=0)<;>cases decide (c.Timer-1=0)<;>rfl
theorem aWv{c:DCore}(h0:0<=c.Timer)(h1:c.Timer<=4095):gI c=some (bif (M.tick c).Waits&&(M.tick c).On then(M.trap (M.quiet (M.tick c)) (M.tick c).Pc 4 0,true)else(M.tick c,false)):=by unfold gI vZ wD;obtain⟨r,pc,ro,v,s,su,ca,ba,t,w,u,o,st⟩:=c;simp only at h0 h1;rw[aJ (z:=t-1) (by omega) (by omega)];by_cases e:t=0;{subst e;simp only[M.tick,decide_true,cTq,Int.lt_irrefl,decide_false,cFq,oB,JO.run];cases w<;>cases o<;>rfl};{simp only[M.tick,dF e,dT (show 0<t by omega),cTq,cFq];by_cases e1:t-1=0;{simp only[dT e1,cTq,oB,JO.run];cases o<;>rfl};{simp only[dF e1,cFq,oB,JO.run];cases w<;>cases o<;>rfl}}
theorem aAj(c:DCore):gQ c=some (c.Waits&&c.On):=by unfold gQ;cases c.Waits<;>rfl
namespace M
def bRu:DCore:=⟨[],0,0,0,0,false,0,0,0,false,false,false,false⟩
def zero:DBare:=⟨bRu,[],[],[]⟩
end M
section
variable {b : DBare} {op a n : Int}
theorem BOk.tick(hb:BOk b):BOk (M.with_ b (M.tick b.C)):=by have ht:=hb.timer;unfold M.tick;by_cases e:b.C.Timer=0;{rw[dT e];exact⟨hb.regs,hb.words,hb.pc,hb.vec,hb.sav,hb.bad,hb.root,hb.cause,hb.timer,hb.mem,hb.inn,hb.inw,hb.out,hb.outw⟩};{rw[dF e];exact⟨hb.regs,hb.words,hb.pc,hb.vec,hb.sav,hb.bad,hb.root,hb.cause,⟨by show 0<=b.C.Timer-1;omega,by show b.C.Timer-1<=4095;omega⟩,hb.mem,hb.inn,hb.inw,hb.out,hb.outw⟩}
theorem zB(hb:BOk b){z:Int}(h0:0<=z)(h1:z<64):0<=b.Mem.getD z.toNat default/\b.Mem.getD z.toNat default<=4095:=iQ (aKl hb.mem) (by have:=hb.len;omega)
theorem bBi(b:DBare)(i:DIns):(M.kdo b i).Mem=b.Mem:=by unfold M.kdo;cases decide (i.Op=0)<;>cases decide (i.Op=8)<;>cases decide (i.Op=9)<;>cases decide (i.Op=10)<;>cases decide (i.Op=11)<;>cases decide (i.Op=12)<;>cases decide (i.Op=13)<;>rfl
theorem BOk.trap(hb:BOk b){src cause bad:Int}(h1:0<=src/\src<=63)(h2:0<=cause/\cause<=4)(h3:0<=bad/\bad<=63):BOk (M.with_ b (M.trap b.C src cause bad)):=⟨hb.regs,hb.words,hb.vec,hb.vec,h1,h3,hb.root,h2,hb.timer,hb.mem,hb.inn,hb.inw,hb.out,hb.outw⟩
theorem BOk.at_(hb:BOk b){pc:Int}(h:0<=pc/\pc<=63):BOk (M.with_ b (M.at_ b.C pc)):=⟨hb.regs,hb.words,h,hb.vec,hb.sav,hb.bad,hb.root,hb.cause,hb.timer,hb.mem,hb.inn,hb.inw,hb.out,hb.outw⟩
theorem BOk.go(hb:BOk b):BOk (M.with_ b (M.go b.C)):=hb.at_ (by omega)
theorem BOk.put(hb:BOk b){w:Int}(h:0<=w/\w<=4095):BOk (M.with_ b (M.put b.C a w)):=⟨by show(b.C.Regs.set _ _).length=4;rw[lS];exact hb.regs,aBj hb.words h.1 h.2,hb.pc,hb.vec,hb.sav,hb.bad,hb.root,hb.cause,hb.timer,hb.mem,hb.inn,hb.inw,hb.out,hb.outw⟩
theorem aYf{xs:List Int}{w:Int}(h:M.wordsOk xs=true)(hw:0<=w/\w<=4095):M.wordsOk (xs++[w])=true:=by refine List.all_eq_true.2 λx hx=>?_;rcases List.mem_append.1 hx with h1|h1;{exact List.all_eq_true.1 h x h1};{rw[List.mem_singleton.1 h1];exact M.inR_iff.2 hw}
theorem aWj{xs:List Int}(h:M.wordsOk xs=true):M.wordsOk (xs.drop 1)=true:=List.all_eq_true.2 λx hx=>List.all_eq_true.1 h x (List.mem_of_mem_drop hx)
theorem bJk{xs:List Int}(h:M.wordsOk xs=true):0<=M.first xs/\M.first xs<=4095:=by
 (cases xs with|nil=>exact⟨by decide,by decide⟩|cons x xs=>exact M.inR_iff.1 (List.all_eq_true.1 h x (List.mem_cons_self ..)))
theorem bPb(hb:BOk b){k:Int}:0<=M.cin b k/\M.cin b k<=4095:=by have h1:=hb.cause;have h2:=hb.bad;have h3:=hb.sav;have h4:=bJk hb.inw;unfold M.cin;cases decide (k=1)<;>cases decide (k=2)<;>cases decide (k=3)<;>simp only[cTq,cFq]<;>omega
theorem bNf(hb:BOk b)(a0:0<=a)(a1:a<=3):BOk (M.kdo b ⟨op,a,n⟩):=by
 have g:=hb.reg a0 (by omega);unfold M.kdo;simp only;cases decide (op=0)with
 |true=>exact⟨hb.regs,hb.words,hb.pc,hb.vec,hb.sav,hb.bad,hb.root,hb.cause,hb.timer,hb.mem,hb.inn,hb.inw,hb.out,hb.outw⟩
 |false=>
 cases decide (op=8)with
 |true=>have hr:-1<=M.root (M.reg b.C a)/\M.root (M.reg b.C a)<=7:=(by unfold M.root;by_cases e:M.reg b.C a%16<8;{rw[dT e,cTq];omega};{rw[dF e,cFq];omega});exact BOk.go (b:=M.with_ b ⟨b.C.Regs,b.C.Pc,M.root (M.reg b.C a),b.C.Vector,b.C.Saved,b.C.SavedUser,b.C.Cause,b.C.Bad,b.C.Timer,b.C.Waits,b.C.User,b.C.On,b.C.Stopped⟩) ⟨hb.regs,hb.words,hb.pc,hb.vec,hb.sav,hb.bad,hr,hb.cause,hb.timer,hb.mem,hb.inn,hb.inw,hb.out,hb.outw⟩
 |false=>
 cases decide (op=9)with
 |true=>exact BOk.go (b:=M.with_ b ⟨b.C.Regs,b.C.Pc,b.C.Root,M.reg b.C a%64,b.C.Saved,b.C.SavedUser,b.C.Cause,b.C.Bad,b.C.Timer,b.C.Waits,b.C.User,b.C.On,b.C.Stopped⟩) ⟨hb.regs,hb.words,hb.pc,by show 0<=M.reg b.C a%64/\M.reg b.C a%64<=63;omega,hb.sav,hb.bad,hb.root,hb.cause,hb.timer,hb.mem,hb.inn,hb.inw,hb.out,hb.outw⟩
 |false=>
 cases decide (op=10)with
 |true=>exact BOk.go (b:=M.with_ b ⟨b.C.Regs,b.C.Pc,b.C.Root,b.C.Vector,b.C.Saved,b.C.SavedUser,b.C.Cause,b.C.Bad,M.reg b.C a,b.C.Waits,b.C.User,b.C.On,b.C.Stopped⟩) ⟨hb.regs,hb.words,hb.pc,hb.vec,hb.sav,hb.bad,hb.root,hb.cause,g,hb.mem,hb.inn,hb.inw,hb.out,hb.outw⟩
 |false=>
 cases decide (op=11)with
 |true=>exact⟨hb.regs,hb.words,hb.sav,hb.vec,hb.sav,hb.bad,hb.root,hb.cause,hb.timer,hb.mem,hb.inn,hb.inw,hb.out,hb.outw⟩
 |false=>
 cases decide (op=12)with
 |true=>exact BOk.go (b:=M.with_ b ⟨b.C.Regs,b.C.Pc,b.C.Root,b.C.Vector,b.C.Saved,b.C.SavedUser,b.C.Cause,b.C.Bad,b.C.Timer,b.C.Waits,b.C.User,decide (n%2=1),b.C.Stopped⟩) ⟨hb.regs,hb.words,hb.pc,hb.vec,hb.sav,hb.bad,hb.root,hb.cause,hb.timer,hb.mem,hb.inn,hb.inw,hb.out,hb.outw⟩
 |false=>
 have h:=hb.go;(cases decide (op=13)with|true=>simp only[cTq,cFq];by_cases e:b.Out.length<30;{rw[dT e];exact⟨h.regs,h.words,h.pc,h.vec,h.sav,h.bad,h.root,h.cause,h.timer,h.mem,h.inn,h.inw,by show(b.Out++[_]).length<=30;simp only[List.length_append,List.length_cons,List.length_nil];omega,aYf hb.outw g⟩};{rw[dF e];exact h}|false=>simp only[cFq];have h:=(hb.put (a:=a) (bPb hb (k:=n%4))).go;refine⟨h.regs,h.words,h.pc,h.vec,h.sav,h.bad,h.root,h.cause,h.timer,h.mem,?_,?_,h.out,h.outw⟩;{show(M.rest b.In (n%4)).length<=30;have:=hb.inn;unfold M.rest;cases decide (n%4=0)<;>simp only[cTq,cFq,List.length_drop]<;>omega};{show M.wordsOk (M.rest b.In (n%4))=true;unfold M.rest;cases decide (n%4=0);{exact hb.inw};{exact aWj hb.inw}})
theorem bHu(hb:BOk b)(a0:0<=a)(a1:a<=3)(n0:0<=n)(n1:n<=63):BOk (M.with_ b (M.plain b.C ⟨op,a,n⟩)):=by
 have hp:=hb.pc;unfold M.plain;simp only;cases decide (op=1)with
 |true=>exact(hb.put (a:=a) (w:=n) (by omega)).go
 |false=>
 cases decide (op=2)with
 |true=>exact(hb.put (a:=a) (w:=(M.reg b.C a+M.reg b.C (n%4))%4096) (by omega)).go
 |false=>
 cases decide (op=15)with
 |true=>exact(hb.put (a:=a) (w:=(M.reg b.C a-M.reg b.C (n%4)+4096)%4096) (by omega)).go
 |false=>
 cases decide (op=5)with
 |true=>exact hb.at_ ⟨n0,n1⟩
 |false=>
 (cases decide (op=6)with|true=>(cases decide (M.reg b.C a=0)with|true=>exact hb.go|false=>exact hb.at_ ⟨n0,n1⟩)|false=>exact hb.trap (src:=(b.C.Pc+1)%64) (cause:=1) (bad:=0) (by omega) (by omega) (by omega))
theorem bEx(hb:BOk b)(a0:0<=a)(a1:a<=3)(n0:0<=n)(ho:op=3\/op=4):BOk (M.mdo b ⟨op,a,n⟩):=by have g:=hb.reg a0 (by omega);unfold M.mdo;simp only;by_cases h:M.walk b.Mem b.C.Root (M.reg b.C (n%4)%64) b.C.User (decide (op=4))=-1;{rw[dT h];exact hb.trap (src:=b.C.Pc) (cause:=2) (bad:=M.reg b.C (n%4)%64) hb.pc (by omega) (by omega)};{have hw:=aCs _ _ _ _ _ h;rw[dF h];rcases ho with rfl|rfl;{simp only[Int.reduceEq,decide_false]at hw;exact(hb.put (a:=a) (zB hb hw.1 hw.2)).go};{have h2:=hb.go;refine⟨h2.regs,h2.words,h2.pc,h2.vec,h2.sav,h2.bad,h2.root,h2.cause,h2.timer,?_,h2.inn,h2.inw,h2.out,h2.outw⟩;show M.memOk (b.Mem.set _ _)=true;simp only[M.memOk,lS,hb.len,decide_true,Bool.true_and];exact aBj (aKl hb.mem) g.1 g.2}}
theorem bNu(hb:BOk b){i:DIns}(hi:M.insOk i=true):BOk (M.did b i):=by obtain⟨op,a,n⟩:=i;simp only[M.insOk,bA,M.inR_iff]at hi;obtain⟨⟨⟨o0,o1⟩,a0,a1⟩,n0,n1⟩:=hi;unfold M.did;simp only;(cases M.kern op with|true=>(cases b.C.User with|true=>exact hb.trap (src:=b.C.Pc) (cause:=3) (bad:=0) hb.pc (by omega) (by omega)|false=>exact bNf hb a0 a1)|false=>by_cases h3:op=3;{rw[dT h3];exact bEx hb a0 a1 n0 (.inl h3)};{by_cases h4:op=4;{rw[dT h4,Bool.or_true];exact bEx hb a0 a1 n0 (.inr h4)};{rw[dF h3,dF h4];exact bHu hb a0 a1 n0 n1}})
theorem aPi(hb:BOk b):BOk (M.step b):=by
 have ht:=hb.tick;unfold M.step;cases b.C.Stopped with
 |true=>exact hb
 |false=>
 cases(M.tick b.C).Waits&&(M.tick b.C).On with
 |true=>have hq:BOk (M.with_ b (M.quiet (M.tick b.C))):=⟨ht.regs,ht.words,ht.pc,ht.vec,ht.sav,ht.bad,ht.root,ht.cause,ht.timer,ht.mem,ht.inn,ht.inw,ht.out,ht.outw⟩;exact hq.trap (src:=(M.tick b.C).Pc) (cause:=4) (bad:=0) ht.pc (by omega) (by omega)
 |false=>
 simp only[cFq];by_cases h:M.walk b.Mem (M.tick b.C).Root (M.tick b.C).Pc (M.tick b.C).User false=-1;{rw[dT h];exact ht.trap (src:=(M.tick b.C).Pc) (cause:=2) (bad:=(M.tick b.C).Pc) ht.pc (by omega) ht.pc};{have hw:=aCs _ _ _ _ _ h;have hm:=zB hb hw.1 hw.2;rw[dF h];exact bNu ht (aGb hm.1 hm.2)}
theorem BOk.small(hb:BOk b):SmallB b:=⟨⟨by have:=hb.regs;omega⟩,by have:=hb.len;omega,by have:=hb.inn;omega,by have:=hb.out;omega⟩
end
theorem bMh{xs:List Int}{s:DSlot}{B:Nat}(hs:M.slotOk s=true)(ht:Tl B xs)(hB:B<=1000000000){Y:Type}:(cond (!decide (s.Frame=(-1:Int))) (grd ((0:Int)<=s.Frame/\s.Frame<((xs.length:Nat):Int)) (grd ((0:Int)<=s.Frame/\s.Frame<((xs.length:Nat):Int)) (some (JO.go (List.set xs (Int.toNat s.Frame) (w64 ((List.getD xs (Int.toNat s.Frame) default)+(1:Int)))))))) (some (JO.go xs)):Option (JO (List Int) Y))=some (.go (M.bump xs s)):=by have hr:=kL hs;have hl:=ht.len;unfold M.bump;by_cases e:s.Frame=-1;{rw[dT e];rfl};{rw[dF e];have h1:=ht.low s.Frame.toNat (by omega);have h2:=ht.top s.Frame.toNat (by omega);rw[bF,cTq,cFq,aA ⟨by omega,by omega⟩,aA ⟨by omega,by omega⟩,aJ (by omega) (by omega)]}
theorem aLr{gs:List DGuest}(hl:gs.length<=1048576)(h:gs.all M.guestOk=true):fW gs=some (M.takers (M.slots gs)):=by
 have hin:∀(k:Nat) (g:DGuest) (xs:List Int) (h1:(k:Int)<(gs.length:Int)) (h2:g∈gs) (h3:gs.getD k default=g) (h4:Tl (8*k) xs),
  iter (gB gs (xs,(k:Int))) (xs,0)=some (.ret (.go (g.Pages.foldl M.bump xs)))/\Tl (8*k+g.Pages.length) (g.Pages.foldl M.bump xs):=by
  intro k g xs h1 h2 h3 h4;obtain⟨g1,g2⟩:=mK (List.all_eq_true.1 h g h2)
  exact nM (xs:=g.Pages) (step:=gB gs (xs,(k:Int))) (λs j=>(s,j)) M.bump (λs=> .go s) (λj s=>Tl (8*k+j) s) (λj x s a1 a2 a3 a4=>by
   refine⟨?_,a4.bump (List.all_eq_true.1 g1 x a2)⟩;simp only[gB,iT,h3,dT a1,cTq];rw[aA ⟨by omega,a1⟩,a3,bMh (List.all_eq_true.1 g1 x a2) a4 (by omega),oB];simp only[JO.run,tO];rw[aJ (by omega) (by omega)]) (λs _=>by
   simp only[gB,iT,h3];rw[dF (by omega),cFq]) xs h4
 have key:=(nM (xs:=gs) (step:=jH gs) (λs j=>(s,j)) (λs g=>g.Pages.foldl M.bump s) (λs=> .go s) (λk s=>Tl (8*k) s) (λk g s a1 a2 a3 a4=>by
  obtain⟨b1,b2⟩:=hin k g s a1 a2 a3 a4;refine⟨?_,b2.mono (by have:=(mK (List.all_eq_true.1 h g a2)).2;omega)⟩;simp only[jH,dT a1,cTq];rw[aA ⟨by omega,a1⟩,b1];simp only[oB,LO.val,JO.run,tV];rw[aJ (by omega) (by omega)]) (λs _=>by
  simp only[jH];rw[dF (by omega),cFq]) (List.replicate 20 0) (Tl.zero.mono (by omega))).1
 unfold fW;rw[show Int.toNat (20:Int)=20 from rfl,key];simp only[oB,LO.val,JO.run,tN];rw[qO];rfl
theorem bLf{gs:List DGuest}(hl:gs.length<=1048576)(h:gs.all M.guestOk=true)(hwr:True):iS gs=some (M.alone (M.slots gs)):=by
 unfold iS;rw[aLr hl h,oB];have hs:=tW h
 have hin:∀(k:Nat) (g:DGuest) (h1:(k:Int)<(gs.length:Int)) (h2:g∈gs) (h3:gs.getD k default=g),
  iter (eT gs (M.takers (M.slots gs)) (k:Int)) 0=some (.ret (bif g.Pages.all (λs=>!s.Write||decide (M.many (M.slots gs) s.Frame<=1))then .go ()else .out (.ret (.out false)))):=by
  intro k g h1 h2 h3;obtain⟨g1,g2⟩:=mK (List.all_eq_true.1 h g h2)
  exact(tD (xs:=g.Pages) (σ:=Unit) (step:=eT gs (M.takers (M.slots gs)) (k:Int)) (λ_ j=>j) _ (λ_ _=>()) (λ_=>JO.go ()) _ (λ_ _=>True) (λj x s a1 a2 a3 _=>by
   refine⟨?_,λ_=>trivial⟩;have hx:=List.all_eq_true.1 g1 x a2;have hr:=kL hx;simp only[eT,iT,h3,dT a1,cTq,a3];rw[aA ⟨by omega,a1⟩];cases hw:x.Write with
   |false=>simp only[cFq,oB,JO.run,kE,bF,Bool.true_or,cTq];rw[aJ (by omega) (by omega)]
   |true=>
    have hf:x.Frame≠-1:=λe=>by unfold M.slotOk at hx;rw[dT e,hw]at hx;simp at hx
    have hlt:=qT hs;simp only[cTq];rw[aA ⟨by omega,by omega⟩,uM hs (by omega),show((x.Frame.toNat:Nat):Int)=x.Frame by omega];by_cases e:M.many (M.slots gs) x.Frame<=1;{rw[dF (by omega),dT e];simp only[cFq,oB,JO.run,kE,bT,Bool.false_or,cTq];rw[aJ (by omega) (by omega)]}
    · rw[dT (by omega),dF e];rfl) (λs _=>by
   simp only[eT,iT,h3];rw[dF (by omega),cFq]) () trivial).1
 have key:=(tD (xs:=gs) (σ:=Unit) (step:=gF gs (M.takers (M.slots gs))) (λ_ j=>j) (λg=>g.Pages.all (λs=>!s.Write||decide (M.many (M.slots gs) s.Frame<=1))) (λ_ _=>()) (λ_=>JO.go ()) (.out false) (λ_ _=>True) (λk g s a1 a2 a3 _=>by
  refine⟨?_,λ_=>trivial⟩;simp only[gF,dT a1,cTq];rw[aA ⟨by omega,a1⟩,hin k g a1 a2 a3];cases g.Pages.all (λs=>!s.Write||decide (M.many (M.slots gs) s.Frame<=1))with
  |false=>rfl
  |true=>simp only[cTq,oB,LO.val,JO.run,pC];rw[aJ (by omega) (by omega)]) (λs _=>by
  simp only[gF];rw[dF (by omega),cFq]) () trivial).1
 rw[key]
 have e:M.alone (M.slots gs)=gs.all (λg=>g.Pages.all (λs=>!s.Write||decide (M.many (M.slots gs) s.Frame<=1))):=by
  simp only[M.alone]
  conv=>lhs;arg 1;unfold M.slots
  rw[List.all_flatMap]
 rw[e];cases gs.all (λg=>g.Pages.all (λs=>!s.Write||decide (M.many (M.slots gs) s.Frame<=1)))<;>rfl
theorem aVf{h:DHost}(hs:SmallH h):oR h=some (M.hostOk h):=by have:=hs.words;unfold oR M.hostOk;by_cases hl:h.Words.length=160;{rw[show decide (((h.Words.length:Nat):Int)=160)=true by simp;omega,cTq,aGe (by omega),dT hl,oB];(cases M.wordsOk h.Words with|false=>rfl|true=>rw[cTq,bCt hs.guests hs.all,oB];(cases hg:(decide (h.Guests.length=3)&&h.Guests.all M.guestOk)with|false=>rfl|true=>rw[bA]at hg;rw[cTq,bLf hs.guests hg.2 trivial];rfl))};{rw[show decide (((h.Words.length:Nat):Int)=160)=false by simp;omega,dF hl];rfl}
theorem bIe{xs:List Int}{n:Int}(h:xs.length<=9223372036854775806):gE xs n=some (decide ((xs.length:Int)<=n)&&M.wordsOk xs):=by unfold gE;rw[zH vI h (rL xs) (λk=>rfl)];simp only[M.wordsOk];cases xs.all M.wordOk;{simp[LO.val,JO.run]};{simp only[LO.val,JO.run,oB,rR,cTq,Bool.and_true]}
namespace M
def bumpW(ws:List Bool)(s:DSlot):List Bool:=bif decide (s.Frame=-1)then ws else ws.set s.Frame.toNat (ws.getD s.Frame.toNat default||s.Write)
def bump2(p:List Int×List Bool)(s:DSlot):List Int×List Bool:=(bump p.1 s,bumpW p.2 s)
end M
theorem bKf{xs:List Bool}{i j:Nat}{v:Bool}(hi:i<xs.length):(xs.set i v).getD j default=if i=j then v else xs.getD j default:=by by_cases h:i=j;{subst h;simp[List.getD,hi]};{simp[List.getD,List.getElem?_set,h]}
theorem aRz{xs:List Bool}{s:DSlot}:(M.bumpW xs s).length=xs.length:=by unfold M.bumpW;cases decide (s.Frame=-1)<;>simp
theorem bFk{xs:List Bool}{s:DSlot}(hl:xs.length=20)(h:M.slotOk s=true){f:Nat}(hf:f<20):(M.bumpW xs s).getD f default=(xs.getD f default||(decide (s.Frame=(f:Int))&&s.Write)):=by have hr:=kL h;unfold M.bumpW;by_cases e:s.Frame=-1;{rw[dT e,cTq,dF (by omega)];simp};{rw[dF e,cFq,bKf (by omega)];by_cases e2:s.Frame=(f:Int);{rw[if_pos (by omega),dT e2,Bool.true_and];congr 2;omega};{rw[if_neg (by omega),dF e2];simp}}
theorem aQq:∀{ss:List DSlot} {p:List Int×List Bool},(ss.foldl M.bump2 p).1=ss.foldl M.bump p.1
 |[],_=>rfl
 |s::ss,p=>by rw[List.foldl_cons,aQq];rfl
theorem aQt{f:Nat}(hf:f<20):∀{ss:List DSlot} {p:List Int×List Bool},p.2.length=20->ss.all M.slotOk=true->(ss.foldl M.bump2 p).2.length=20/\(ss.foldl M.bump2 p).2.getD f default=(p.2.getD f default||ss.any λs=>decide (s.Frame=(f:Int))&&s.Write)
 |[],p,hl,_=>⟨hl,by simp⟩
 |s::ss,p,hl,h=>by rw[List.all_cons,bA]at h;obtain⟨h1,h2⟩:=aQt hf (ss:=ss) (p:=M.bump2 p s) (by simpa[M.bump2,aRz]using hl) h.2;refine⟨h1,?_⟩;rw[List.foldl_cons,h2,List.any_cons];simp only[M.bump2];rw[bFk hl h.1 hf,Bool.or_assoc]
structure Tw (B : Nat) (p : List Int × List Bool) : Prop where
 tl:Tl B p.1
 len:p.2.length=20
theorem Tw.bump{B:Nat}{p:List Int×List Bool}{s:DSlot}(h:Tw B p)(hs:M.slotOk s=true):Tw (B+1) (M.bump2 p s):=⟨h.tl.bump hs,by simp[M.bump2,aRz,h.len]⟩
theorem aZf{h:DHost}{k:Nat}{g:DGuest}{p:List Int×List Bool}{B:Nat}(hl:g.Pages.length<=8)(h3:h.Guests.getD k default=g)(ht:Tw B p)(hB:B<=1000000):
 iter (jU h (p.1,p.2,(k:Int))) (p.1,p.2,0)=some (.ret (bif g.Pages.all M.slotOk then .go ((g.Pages.foldl M.bump2 p).1,(g.Pages.foldl M.bump2 p).2)else .out (.ret (.out false))))/\(g.Pages.all M.slotOk=true->Tw (B+g.Pages.length) (g.Pages.foldl M.bump2 p)):=by
 exact tD (xs:=g.Pages) (step:=jU h (p.1,p.2,(k:Int))) (λs j=>(s.1,s.2,j)) M.slotOk M.bump2 (λs=> .go (s.1,s.2)) (.out (.ret (.out false))) (λj s=>Tw (B+j) s) (λj x s a1 a2 a3 a4=>by
  refine⟨?_,λhx=>a4.bump hx⟩;simp only[jU,iT,h3,dT a1,cTq,a3];rw[aA ⟨by omega,a1⟩,rX,oB];have hgo:M.slotOk x=true->rO h (p.1,p.2,(k:Int)) (s.1,s.2,(j:Int)) ()=some (.go ((M.bump2 s x).2,(M.bump2 s x).1)):=λhx=>by have hr:=kL hx;have hl1:=a4.tl.len;have hl2:=a4.len;simp only[rO,iT,h3,a3,M.bump2,M.bump,M.bumpW];by_cases e:x.Frame=-1;{rw[dF (p:=(0:Int)<=x.Frame) (by omega),dT e];rfl};{have q1:=a4.tl.low x.Frame.toNat (by omega);have q2:=a4.tl.top x.Frame.toNat (by omega);rw[dT (p:=(0:Int)<=x.Frame) (by omega),dF e];simp only[cTq,cFq];rw[aA ⟨by omega,by omega⟩,aA ⟨by omega,by omega⟩,aA ⟨by omega,by omega⟩,aJ (by omega) (by omega)];(cases hw:s.2.getD x.Frame.toNat default with|true=>rw[cTq,aA ⟨by omega,by omega⟩,Bool.true_or]|false=>rw[cFq,aA ⟨by omega,by omega⟩,Bool.false_or])}
  by_cases e:x.Frame=-1;{have hin:M.inR (-1) 19 x.Frame=true:=(by rw[M.inR_iff];omega);rw[hin,bT,cFq,dT e,cTq];(cases hw:x.Write with|true=>have:M.slotOk x=false:=(by unfold M.slotOk;rw[dT e,hw];rfl);rw[this];rfl|false=>(cases hd:x.Dirty with|true=>have:M.slotOk x=false:=(by unfold M.slotOk;rw[dT e,hw,hd];rfl);rw[this];rfl|false=>have hx:M.slotOk x=true:=(by unfold M.slotOk;rw[dT e,hw,hd];rfl);rw[hx];simp only[cFq,oB,JO.run,hgo hx,rN,cTq];rw[aJ (by omega) (by omega)]))}
  · by_cases hin:M.inR (-1) 19 x.Frame=true
    {have hr:=M.inR_iff.1 hin;have hx:M.slotOk x=true:=(by unfold M.slotOk;rw[dF e,cFq,bA,decide_eq_true_eq,decide_eq_true_eq];omega);rw[hin,bT,cFq,dF e,cFq,hx];simp only[oB,JO.run,hgo hx,rN,cTq];rw[aJ (by omega) (by omega)]}
    · have hn:¬(-1<=x.Frame/\x.Frame<=19):=λc=>hin (M.inR_iff.2 c);have hx:M.slotOk x=false:=(by(cases hh:M.slotOk x with|false=>rfl|true=>have:=kL hh;omega));rw[Bool.eq_false_iff.2 hin,hx];rfl) (λs _=>by
  simp only[jU,iT,h3];rw[dF (by omega),cFq]) p ht
theorem bIl{h:DHost}(hs:SmallH h)(hl:h.Guests.length=3):
 iter (kZ h) (List.replicate 20 0,List.replicate 20 false,0)=some (.ret (bif h.Guests.all M.guestOk then .go (((M.slots h.Guests).foldl M.bump2 (List.replicate 20 0,List.replicate 20 false)).1,((M.slots h.Guests).foldl M.bump2 (List.replicate 20 0,List.replicate 20 false)).2)else .out false)):=by
 have key:=(tD (xs:=h.Guests) (step:=kZ h) (λ(s:List Int×List Bool) j=>(s.1,s.2,j)) M.guestOk (λs g=>g.Pages.foldl M.bump2 s) (λs=>JO.go (s.1,s.2)) (.out false) (λj s=>Tw (8*j) s) (λk g s a1 a2 a3 a4=>by
  have hg:=hs.all g a2;have:=hg.c.regs;have:=hg.pages;have:=hg.i;have:=hg.o;refine⟨?_,λhx=>?_⟩;{simp only[kZ,iT,dT a1,cTq,a3];rw[aA ⟨by omega,a1⟩];(cases hlv:g.Live with|false=>have e:oK (DGuest.mk false (DCore.mk g.C.Regs g.C.Pc g.C.Root g.C.Vector g.C.Saved g.C.SavedUser g.C.Cause g.C.Bad g.C.Timer g.C.Waits g.C.User g.C.On g.C.Stopped) g.Pages g.In g.Out)=some (decide (g=M.noGuest)):=(by have:=bRb hlv;obtain⟨l,c,p,i,o⟩:=g;simp only at hlv;subst hlv;exact this);rw[bF,cTq,e,oB];have e2:M.guestOk g=decide (g=M.noGuest):=(by unfold M.guestOk;rw[hlv];rfl);rw[e2];by_cases hz:g=M.noGuest;{rw[dT hz,hz];simp only[bT,cFq,oB,JO.run,sT,cTq,M.noGuest,List.foldl_nil];rw[aJ (by omega) (by omega)]};{rw[dF hz];rfl}|true=>rw[bT,cFq];have e2:M.guestOk g=(M.coreOk g.C&&(decide (g.Pages.length=8)&&g.Pages.all M.slotOk)&&M.rowOk g.In&&M.rowOk g.Out):=(by unfold M.guestOk;rw[hlv];rfl);show Option.bind (Option.bind (oO g.C) _) _=_;rw[bId (by omega),oB,e2];(cases hc:M.coreOk g.C with|false=>rfl|true=>rw[bT,cFq,Bool.true_and];by_cases hp:g.Pages.length=8;{rw[dT hp,show decide (((g.Pages.length:Nat):Int)=8)=true by simp;omega,bT,cFq,bAn (by omega),oB,bAn (by omega)];(cases hri:M.rowOk g.In with|false=>simp[JO.run]|true=>rw[bT,cFq,oB];(cases hro:M.rowOk g.Out with|false=>simp[JO.run]|true=>rw[bT,cFq,(aZf (by omega) a3 a4 (by omega)).1];(cases hpp:g.Pages.all M.slotOk with|false=>rfl|true=>simp only[cTq,oB,LO.val,JO.run,sT,Bool.and_self];rw[aJ (by omega) (by omega)])))};{rw[dF hp,show decide (((g.Pages.length:Nat):Int)=8)=false by simp;omega];rfl}))}
  · obtain⟨q1,q2⟩:=mK hx;have:=(aZf q2 a3 a4 (by omega)).2 q1;exact⟨this.tl.mono (by omega),this.len⟩) (λs _=>by
  simp only[kZ];rw[dF (by omega),cFq]) (List.replicate 20 0,List.replicate 20 false) ⟨Tl.zero.mono (by omega),by simp⟩).1
 rw[qO]at key;exact key
theorem bMm{ss:List DSlot}(h:ss.all M.slotOk=true):((List.range 20).all λf=>!(decide (1<M.many ss (f:Int))&&ss.any λs=>decide (s.Frame=(f:Int))&&s.Write))=M.alone ss:=by
 apply dbe;simp only[M.alone,List.all_eq_true,List.mem_range,Bool.not_eq_true',Bool.and_eq_false_iff,decide_eq_false_iff_not,List.any_eq_false,bA,decide_eq_true_eq,Bool.or_eq_true,not_and];constructor
 · intro q s hs
   cases hw:s.Write with
   |false=>exact .inl rfl
   |true=>
    have hx:=List.all_eq_true.1 h s hs;have hr:=kL hx;have hf:s.Frame≠-1:=λe=>by unfold M.slotOk at hx;rw[dT e,hw]at hx;simp at hx
    rcases q s.Frame.toNat (by omega)with q|q;{rw[show((s.Frame.toNat:Nat):Int)=s.Frame by omega]at q;exact .inr (by omega)};{exact absurd hw (by simpa using q s hs (by omega))}
 {intro q f hf;by_cases hm:1<M.many ss (f:Int);{refine .inr λs hs e=>?_;rcases q s hs with q|q;{simp[q]};{rw[e]at q;omega}};{exact .inl hm}}
theorem aLq{h:DHost}(hs:SmallH h):lR h=some (M.hostOk h):=by
 have:=hs.words;unfold lR M.hostOk;rw[bIe (by omega),oB];by_cases hl:h.Words.length=160
 · rw[dT (p:=(h.Words.length:Int)<=160) (by omega),dT hl]
   cases M.wordsOk h.Words with
   |false=>rfl
   |true=>
    rw[Bool.true_and,bT,cFq,dT (p:=((h.Words.length:Nat):Int)=160) (by omega),bT,cFq];by_cases hg:h.Guests.length=3
    · rw[dT hg,dT (p:=((h.Guests.length:Nat):Int)=3) (by omega),bT,cFq]
      rw[show Int.toNat (20:Int)=20 from rfl,bIl hs hg];cases ha:h.Guests.all M.guestOk with
      |false=>rfl
      |true=>
       have hsl:=tW ha;simp only[cTq,oB,LO.val,JO.run,yT,Bool.true_and];rw[aQq]
       have key:=bEo (n:=20) (step:=oC ((M.slots h.Guests).foldl M.bump (List.replicate 20 0),((M.slots h.Guests).foldl M.bump2 (List.replicate 20 0,List.replicate 20 false)).2)) (λk=>k) (λf=>!(decide (1<M.many (M.slots h.Guests) (f:Int))&&(M.slots h.Guests).any λs=>decide (s.Frame=(f:Int))&&s.Write)) (JO.go ()) (.out false) (λi hi=>by
        have q1:=uM hsl hi;have q2:=qT hsl;obtain⟨q3,q4⟩:=aQt hi (p:=(List.replicate 20 0,List.replicate 20 false)) (by simp) hsl;unfold M.takers at q1 q2;simp only[oC,iT];have e0:decide ((1:Int)<(List.foldl M.bump (List.replicate 20 0) (M.slots h.Guests)).getD i default)=decide (1<M.many (M.slots h.Guests) (i:Int)):=(by rw[decide_eq_decide,q1];omega);rw[dT (p:=(i:Int)<20) (by omega),cTq,aA ⟨by omega,by omega⟩,e0,q4];rw[show(List.replicate 20 false).getD i default=false by rw[cE (by rw[List.length_replicate];omega),List.getElem_replicate],Bool.false_or];by_cases e:1<M.many (M.slots h.Guests) (i:Int)
        · rw[dT e,cTq,aA ⟨by omega,by omega⟩]
          cases(M.slots h.Guests).any λs=>decide (s.Frame=(i:Int))&&s.Write with
          |true=>rfl
          |false=>simp only[cFq,oB,JO.run,sS,Bool.and_false,bF,cTq];rw[aJ (by omega) (by omega)]
        · rw[dF e];simp only[cFq,oB,JO.run,sS,Bool.false_and,bF,cTq];rw[aJ (by omega) (by omega)]) (by
        simp only[oC];rfl)
       rw[key,bMm hsl];cases M.alone (M.slots h.Guests)<;>rfl
    {rw[dF hg,dF (p:=((h.Guests.length:Nat):Int)=3) (by omega)];rfl}
 {rw[dF hl,dF (p:=((h.Words.length:Nat):Int)=160) (by omega)];cases(decide ((h.Words.length:Int)<=160)&&M.wordsOk h.Words)<;>rfl}
structure HOk (h : DHost) : Prop where
 len:h.Words.length=160
 words:M.wordsOk h.Words=true
 three:h.Guests.length=3
 all:h.Guests.all M.guestOk=true
 alone:M.alone (M.slots h.Guests)=true
theorem lN{h:DHost}:M.hostOk h=true↔HOk h:=by unfold M.hostOk;simp only[bA,decide_eq_true_eq];exact⟨λ⟨⟨⟨a,b⟩,c,d⟩,e⟩=>⟨a,b,c,d,e⟩,λh=>⟨⟨⟨h.len,h.words⟩,h.three,h.all⟩,h.alone⟩⟩
namespace M
noncomputable def there (h:DHost)(g:Int):Bool:=hostOk h&&(inR 0 2 g&&(h.Guests.getD g.toNat default).Live)
end M
theorem tI{h:DHost}{g:Int}:M.there h g=true↔HOk h/\0<=g/\g<=2/\(h.Guests.getD g.toNat default).Live=true:=by unfold M.there;rw[bA,bA,lN,M.inR_iff];exact⟨λ⟨a,⟨b,c⟩,d⟩=>⟨a,b,c,d⟩,λ⟨a,b,c,d⟩=>⟨a,⟨b,c⟩,d⟩⟩
theorem bFp{gs:List DGuest}{g:Int}(h3:gs.length=3):qG gs g=some (M.inR 0 2 g&&(gs.getD g.toNat default).Live):=by unfold qG M.inR;by_cases h0:0<=g;{by_cases h1:g<3;{rw[dT h0,dT h1,dT (p:=g<=2) (by omega),cTq,cTq,aA ⟨h0,by omega⟩];rfl};{rw[dT h0,dF h1,dF (p:=g<=2) (by omega)];rfl}};{rw[dF h0];rfl}
theorem aDq{h:DHost}{g:Int}(hs:SmallH h):jL h g=some (M.there h g):=by unfold jL M.there;rw[aVf hs,oB];(cases hh:M.hostOk h with|false=>rfl|true=>have hk:=lN.1 hh;rw[cTq,bFp hk.three];rfl)
theorem aBt{h:DHost}{g:Int}(hs:SmallH h):eZ h g=some (M.there h g):=by unfold eZ M.there;rw[aLq hs,oB];(cases hh:M.hostOk h with|false=>rfl|true=>have hk:=lN.1 hh;have:=hk.three;rw[cTq,Bool.true_and,rX,oB];(cases hi:M.inR 0 2 g with|false=>rfl|true=>have:=M.inR_iff.1 hi;rw[cTq,Bool.true_and,aA ⟨by omega,by omega⟩]))
theorem vK{xs ys:List Int}{o k a:Nat}(hk:ys.length=k)(ho:o+k<=xs.length):(over xs o k ys).getD a default=if a<o then xs.getD a default else if a<o+k then ys.getD (a-o) default else xs.getD a default:=by simp only[over,hk,Nat.min_self,List.getD_eq_getElem?_getD];rw[List.take_of_length_le (l:=ys) (i:=k) (by omega)];by_cases h1:a<o;{rw[if_pos h1,List.getElem?_append_left (by simp;omega),List.getElem?_take_of_lt h1]};{rw[if_neg h1,List.getElem?_append_right (by simp;omega)];have e:(xs.take o).length=o:=(by simp;omega);rw[e];by_cases h2:a<o+k;{rw[if_pos h2,List.getElem?_append_left (by omega)]};{rw[if_neg h2,List.getElem?_append_right (by omega),List.getElem?_drop];congr 2;omega}}
theorem nN{xs ys:List Int}{o k:Nat}(ho:o+k<=xs.length):(over xs o k ys).length=xs.length:=aGl ho
theorem vL{xs ys:List Int}{n:Nat}(h1:xs.length=n)(h2:ys.length=n)(h:∀a,a<n->xs.getD a default=ys.getD a default):xs=ys:=by apply List.ext_getElem (by omega);intro i q1 q2;have:=h i (by omega);rwa[cE q1,cE q2]at this
theorem aVq{xs:List Int}{o a:Nat}(ha:a<8):((xs.drop o).take 8).getD a default=xs.getD (o+a) default:=by simp only[List.getD_eq_getElem?_getD];rw[List.getElem?_take_of_lt ha,List.getElem?_drop]
theorem aMs{xs:List Int}{o:Nat}(h:o+8<=xs.length):((xs.drop o).take 8).length=8:=by simp;omega
namespace M
def word(ws:List Int)(ps:List DSlot)(a:Nat):Int:=if(ps.getD (a/8) default).Frame<0 then 0 else ws.getD ((ps.getD (a/8) default).Frame.toNat*8+a%8) default
def mem(ws:List Int)(ps:List DSlot):List Int:=(List.range 64).map (word ws ps)
def page(ws:List Int)(f:Nat):List Int:=(ws.drop (f*8)).take 8
noncomputable def hostView (h:DHost)(g:Int):DBare×Bool:=bif there h g then(⟨(h.Guests.getD g.toNat default).C,mem h.Words (h.Guests.getD g.toNat default).Pages,(h.Guests.getD g.toNat default).In,(h.Guests.getD g.toNat default).Out⟩,true)else(⟨noCore,[],[],[]⟩,false)
end M
theorem lO{ws:List Int}{ps:List DSlot}:(M.mem ws ps).length=64:=by simp[M.mem]
theorem oU{ws:List Int}{ps:List DSlot}{a:Nat}(ha:a<64):(M.mem ws ps).getD a default=M.word ws ps a:=by rw[cE (by rw[lO];exact ha)];simp[M.mem]
theorem bKs{xs:List Int}{f:Int}(h0:0<=f)(h1:f*8+8<=xs.length)(h2:f<=1000000):sJ xs f=some (M.page xs f.toNat):=by unfold sJ M.page;rw[aJ (z:=f*8) (by omega) (by omega),aJ (z:=f+1) (by omega) (by omega),aJ (z:=(f+1)*8) (by omega) (by omega),aA ⟨by omega,by omega,by omega⟩];rw[show Int.toNat ((f+1)*8)-Int.toNat (f*8)=8 by omega,show Int.toNat (f*8)=f.toNat*8 by omega]
theorem bIv{xs:List Int}{f:Int}(h0:0<=f)(h1:f*8+8<=xs.length)(h2:f<=1000000):lV xs f=some (xs,(f.toNat*8,8)):=by unfold lV;rw[aJ (z:=f*8) (by omega) (by omega),aJ (z:=f+1) (by omega) (by omega),aJ (z:=(f+1)*8) (by omega) (by omega),aA ⟨by omega,by omega,by omega⟩];rw[show Int.toNat ((f+1)*8)-Int.toNat (f*8)=8 by omega,show Int.toNat (f*8)=f.toNat*8 by omega]
theorem aRx{ps:List DSlot}(hp:ps.all M.slotOk=true){i:Nat}(hi:i<ps.length):-1<=(ps.getD i default).Frame/\(ps.getD i default).Frame<20:=kL (List.all_eq_true.1 hp _ (dS hi))
theorem aSd{b:DBare}(hs:SmallB b):mU b=some b:=by unfold mU;rw[kO hs.c.regs,kO hs.mem,kO hs.i,kO hs.o];rfl
structure Live (h : DHost) (g : Int) (x : DGuest) : Prop where
 small:SmallG x
 ok:HOk h
 lo:0<=g
 hi:g<=2
 at_:h.Guests.getD g.toNat default=x
 live:x.Live=true
 core:M.coreOk x.C=true
 pages:x.Pages.length=8
 slots:x.Pages.all M.slotOk=true
 inn:M.rowOk x.In=true
 out:M.rowOk x.Out=true
theorem dU{h:DHost}{g:Int}(hs:SmallH h)(ht:M.there h g=true):Live h g (h.Guests.getD g.toNat default):=by obtain⟨hk,h0,h1,h2⟩:=tI.1 ht;have:=hk.three;have hm:=dS (xs:=h.Guests) (k:=g.toNat) (by omega);have ho:=List.all_eq_true.1 hk.all _ hm;unfold M.guestOk at ho;rw[h2,cTq]at ho;simp only[bA,decide_eq_true_eq]at ho;exact⟨hs.all _ hm,hk,h0,h1,rfl,h2,ho.1.1.1,ho.1.1.2.1,ho.1.1.2.2,ho.1.2,ho.2⟩
theorem td8(i:Nat):Int.tdiv (i:Int) 8=((i/8:Nat):Int):=rfl
theorem tm8(i:Nat):Int.tmod (i:Int) 8=((i%8:Nat):Int):=rfl
theorem aTn{α:Type}{f:Nat->α}:∀(xs:List Nat) (s:List α),xs.foldl (λs i=>s++[f i]) s=s++xs.map f
 |[],s=>by simp
 |x::xs,s=>by rw[List.foldl_cons,aTn xs];simp
theorem aPu{xs:List DSlot}(h:xs.length<=1048576):lW xs=some xs:=by unfold lW;rw[aA ⟨by omega,by omega,by omega⟩,aVm (by simp)]
theorem bAb{g:DGuest}(h:M.guestOk g=true)(hl:g.Live=false):g=M.noGuest:=by unfold M.guestOk at h;rw[hl,cFq,decide_eq_true_eq]at h;exact h
theorem aQn{g:DGuest}(hs:SmallG g)(h:M.guestOk g=true):jF g=some g:=by unfold jF;(cases hl:g.Live with|false=>have:=bAb h hl;subst this;rfl|true=>rw[bT,cFq,kO hs.c.regs,aPu hs.pages,kO hs.i,kO hs.o];simp only[oB];rw[<-hl])
theorem bMq{g:DGuest}(hs:SmallG g)(h:M.guestOk g=true):mV g=some g:=by have:=hs.pages;have:=hs.i;have:=hs.o;unfold mV;(cases hl:g.Live with|false=>have:=bAb h hl;subst this;rfl|true=>rw[bT,cFq,bEu hs.c,oB,aA ⟨by omega,by omega⟩,aA ⟨by omega,by omega⟩,aA ⟨by omega,by omega⟩,<-hl])
theorem aNv{gs:List DGuest}(hl:gs.length<=1048576)(hs:∀g∈gs,SmallG g)(h:gs.all M.guestOk=true):lG gs=some gs:=by
 unfold lG;rw[aA ⟨by omega,by omega,by omega⟩]
 have key:=aHs (xs:=gs) (ys:=List.replicate (Int.toNat (gs.length:Int)) M.noGuest) (step:=fO gs) (by simp) (λk zs hk hz=>by
  have h1:(k:Int)<(gs.length:Int):=(by omega);simp only[fO,dT h1,cTq];rw[aA ⟨by omega,h1⟩,iT];show Option.bind (jF (gs.getD k default)) _=_;rw[aQn (hs _ (dS hk)) (List.all_eq_true.1 h _ (dS hk)),oB,aA ⟨by omega,by omega⟩,aJ (by omega) (by omega)]) (λzs hz=>by
  simp only[fO];rw[dF (by omega),cFq])
 show Option.bind (Option.bind (iter (fO gs) (List.replicate (Int.toNat (gs.length:Int)) M.noGuest,0)) LO.val) _=_;rw[key];rfl
theorem aFs{h:DHost}(hs:SmallH h)(hg:h.Guests.all M.guestOk=true):fA h=some h:=by
 have:=hs.words;have:=hs.guests;unfold fA;rw[aA ⟨by simp;omega,by simp;omega⟩]
 have key:=(nM (xs:=h.Guests) (step:=nR h) (λs j=>(s,j)) (λs g=>s++[g]) (λs=>JO.go s) (λj s=>s.length=j) (λk g s a1 a2 a3 a4=>by
  refine⟨?_,by simp;omega⟩;simp only[nR,dT a1,cTq,iT,a3];rw[aA ⟨by omega,a1⟩];show Option.bind (mV g) _=_;rw[bMq (hs.all g a2) (List.all_eq_true.1 hg g a2),oB,aA ⟨by omega,by omega⟩,aJ (by omega) (by omega)]) (λs _=>by
  simp only[nR];rw[dF (by omega),cFq]) [] rfl).1
 rw[key]
 have e:∀(xs ys:List DGuest),xs.foldl (λs g=>s++[g]) ys=ys++xs:=by
  intro xs;induction xs with
  |nil=>intro ys;simp
  |cons x xs ih=>intro ys;rw[List.foldl_cons,ih];simp
 rw[e];rfl
namespace M
end M
namespace M
def entry(ws:List Int)(x:DGuest)(p:Nat):DEntry:=if x.C.Root=-1 then⟨true,true,true,(p:Int)⟩else dec (word ws x.Pages (x.C.Root.toNat*8+p))
def shadeFor(x:DGuest)(e:DEntry):DShade:=⟨e.There,e.Write,e.User,e.Page,(x.Pages.getD e.Page.toNat default).Frame,(x.Pages.getD e.Page.toNat default).Write⟩
def shade(ws:List Int)(x:DGuest)(p:Nat):DShade:=shadeFor x (entry ws x p)
def shadow(ws:List Int)(x:DGuest):List DShade:=(List.range 8).map (shade ws x)
noncomputable def shadowOf (h:DHost)(g:Int):List DShade:=bif there h g then shadow h.Words (h.Guests.getD g.toNat default)else[]
def pageWords(ws:List Int)(s:DSlot):List Int:=bif decide (s.Frame=-1)then List.replicate 8 0 else page ws s.Frame.toNat
end M
theorem uH{ws:List Int}{x:DGuest}:(M.shadow ws x).length=8:=by simp[M.shadow]
theorem xM{ws:List Int}{x:DGuest}{p:Nat}(hp:p<8):(M.shadow ws x).getD p default=M.shade ws x p:=by rw[cE (by rw[uH];exact hp)];simp[M.shadow]
theorem aHt{c:DCore}(h:M.coreOk c=true):-1<=c.Root/\c.Root<=7:=by unfold M.coreOk at h;simp only[bA]at h;exact M.inR_iff.1 h.1.1.2
section
variable {h : DHost} {g : Int} {x : DGuest}
theorem cK(l:Live h g x){p:Nat}(hp:p<8):-1<=(x.Pages.getD p default).Frame/\(x.Pages.getD p default).Frame<20:=aRx l.slots (by rw[l.pages];exact hp)
theorem aZr(l:Live h g x){a:Nat}(ha:a<64):0<=M.word h.Words x.Pages a/\M.word h.Words x.Pages a<=4095:=by have:=cK l (p:=a/8) (by omega);have:=l.ok.len;unfold M.word;split;{omega};{exact iQ l.ok.words (by omega)}
theorem aKo{ws:List Int}{s:DSlot}(hw:ws.length=160)(hs:-1<=s.Frame/\s.Frame<20):eY ws s=some (M.pageWords ws s):=by unfold eY M.pageWords;by_cases e:s.Frame=-1;{rw[dT e];rfl};{rw[dF e,cFq,cFq,bKs (by omega) (by omega) (by omega)];rfl}
theorem sF{ws:List Int}{s:DSlot}(hw:ws.length=160)(hs:-1<=s.Frame/\s.Frame<20):(M.pageWords ws s).length=8:=by unfold M.pageWords;by_cases e:s.Frame=-1;{rw[dT e,cTq,List.length_replicate]};{rw[dF e,cFq];exact aMs (by omega)}
theorem sP{ws:List Int}{s:DSlot}(hs:-1<=s.Frame/\s.Frame<20){a:Nat}(ha:a<8):(M.pageWords ws s).getD a default=if s.Frame<0 then 0 else ws.getD (s.Frame.toNat*8+a) default:=by unfold M.pageWords;by_cases e:s.Frame=-1;{rw[dT e,cTq,if_pos (by omega),cE (by rw[List.length_replicate];exact ha),List.getElem_replicate]};{rw[dF e,cFq,if_neg (by omega)];exact aVq ha}
theorem bLu{ws:List Int}{ps:List DSlot}{r p:Nat}(hp:p<8):M.word ws ps (r*8+p)=if(ps.getD r default).Frame<0 then 0 else ws.getD ((ps.getD r default).Frame.toNat*8+p) default:=by unfold M.word;rw[show(r*8+p)/8=r by omega,show(r*8+p)%8=p by omega]
theorem xF(l:Live h g x){p:Nat}(hp:p<8):0<=(M.entry h.Words x p).Page/\(M.entry h.Words x p).Page<=7:=by unfold M.entry;split;{simp only;omega};{exact aUq _}
theorem bGd(l:Live h g x){p:Nat}(hp:p<8):qM h g (p:Int)=some (M.entry h.Words x p):=by have:=l.ok.three;have:=l.lo;have:=l.hi;have hpl:=l.pages;have hr:=aHt l.core;unfold qM M.entry;rw[aA ⟨l.lo,by omega⟩,l.at_];by_cases e:x.C.Root=-1;{rw[dT e,if_pos e];rfl};{have hsl:=cK l (p:=x.C.Root.toNat) (by omega);rw[dF e,if_neg e,cFq,aA ⟨by omega,by omega⟩];show Option.bind (eY h.Words (x.Pages.getD x.C.Root.toNat default)) _=_;rw[aKo l.ok.len hsl,oB,aA ⟨by omega,by rw[sF l.ok.len hsl];omega⟩,iT,sP hsl hp];have hw:=aZr l (a:=x.C.Root.toNat*8+p) (by omega);rw[bLu hp]at hw ⊢;rw[aYj hw.1 hw.2];rfl}
theorem bFs(l:Live h g x){p:Nat}(hp:p<8):rD h g (p:Int)=some (M.shade h.Words x p):=by have:=l.ok.three;have:=l.lo;have:=l.hi;have hpl:=l.pages;have he:=xF l hp;unfold rD;rw[bGd l hp,oB,aA ⟨l.lo,by omega⟩,l.at_,aA ⟨by omega,by omega⟩];rfl
end
section
variable {h : DHost} {g : Int} {x : DGuest}
theorem bKo(l:Live h g x){a:Nat}(ha:a<64):sN h g (a:Int)=some (M.word h.Words x.Pages a):=by have:=l.ok.three;have:=l.lo;have:=l.hi;have hpl:=l.pages;have hlw:=l.ok.len;have hr:=cK l (p:=a/8) (by omega);unfold sN M.word;rw[aA ⟨l.lo,by omega⟩,l.at_,td8,tm8,aJ (z:=((a/8:Nat):Int)) (by omega) (by omega),iT,aA ⟨by omega,by omega⟩];by_cases e:(x.Pages.getD (a/8) default).Frame<0;{rw[dT e,if_pos e];rfl};{rw[dF e,if_neg e,cFq,aJ (z:=(x.Pages.getD (a/8) default).Frame*8) (by omega) (by omega),aJ (z:=(x.Pages.getD (a/8) default).Frame*8+((a%8:Nat):Int)) (by omega) (by omega),aA ⟨by omega,by omega⟩];rw[show Int.toNat ((x.Pages.getD (a/8) default).Frame*8+((a%8:Nat):Int))=(x.Pages.getD (a/8) default).Frame.toNat*8+a%8 by omega]}
end
theorem aOm{h:DHost}{g:Int}(hs:SmallH h):gO h g=some (M.shadowOf h g):=by
 unfold gO M.shadowOf;rw[aBt hs,oB];cases ht:M.there h g with
 |false=>rfl
 |true=>
  have l:=dU hs ht;generalize hx:h.Guests.getD g.toNat default=x at l;have:=l.ok.three;have:=l.lo;have:=l.hi;have hpl:=l.pages;have hr:=aHt l.core;rw[bT,cFq]
  have key:=(aCz (n:=8) (step:=mF h g) (λs j=>(s,j)) (λs i=>s++[M.shade h.Words x i]) (λs=>JO.go s) (λk s=>s.length=k) (λi s hi hs=>by
   refine⟨?_,by simp;omega⟩;have he:=xF l hi;have run:JO.run (.go ((M.entry h.Words x i).There,(M.entry h.Words x i).Write,(M.entry h.Words x i).User,(M.entry h.Words x i).Page)) (qD h g (s,(i:Int)))=some (LO.next (s++[M.shade h.Words x i],(i:Int)+1)):=(by simp only[JO.run,qD];rw[aA ⟨l.lo,by omega⟩,l.at_,aA ⟨by omega,by omega⟩,aA ⟨by simp;omega,by simp;omega⟩,aJ (by omega) (by omega)];rfl);simp only[mF];rw[dT (p:=(i:Int)<8) (by omega),cTq,aA ⟨l.lo,by omega⟩,l.at_];by_cases e:x.C.Root=-1;{rw[dF (by omega),cFq,oB];have ee:M.entry h.Words x i=⟨true,true,true,(i:Int)⟩:=(by unfold M.entry;rw[if_pos e]);rw[ee]at run;exact run}
   · have ee:M.entry h.Words x i=dec (M.word h.Words x.Pages (x.C.Root.toNat*8+i)):=(by unfold M.entry;rw[if_neg e]);have hw:=aZr l (a:=x.C.Root.toNat*8+i) (by omega);rw[dT (by omega),cTq,aJ (z:=x.C.Root*8) (by omega) (by omega),aJ (z:=x.C.Root*8+(i:Int)) (by omega) (by omega),show x.C.Root*8+(i:Int)=((x.C.Root.toNat*8+i:Nat):Int) by omega,bKo l (by omega),oB,aXz hw.1 hw.2];rw[ee]at run;exact run) (λs _=>by
   simp only[mF];rfl) [] rfl).1
  rw[key,aTn];rfl
namespace M
def freeStep(ss:List DSlot)(s:List Int)(i:Nat):List Int:=bif decide (many ss (i:Int)=0)then s++[(i:Int)]else s
def free(ss:List DSlot):List Int:=(List.range 20).foldl (freeStep ss) []
noncomputable def hostFree (h:DHost):List Int:=bif hostOk h then free (slots h.Guests)else[]
end M
theorem aLj{ss:List DSlot}:M.free ss=((List.range 20).filter λ(i:Nat)=>decide (M.many ss (i:Int)=0)).map λ(i:Nat)=>(i:Int):=by
 have e:∀(xs:List Nat) (s:List Int),xs.foldl (M.freeStep ss) s=s++(xs.filter λ(i:Nat)=>decide (M.many ss (i:Int)=0)).map λ(i:Nat)=>(i:Int):=by
  intro xs;induction xs with
  |nil=>intro s;simp
  |cons x xs ih=>intro s;rw[List.foldl_cons,ih,List.filter_cons];unfold M.freeStep;cases decide (M.many ss (x:Int)=0)<;>simp
 unfold M.free;rw[e];simp
theorem aHv{ss:List DSlot}{s:List Int}{i n:Nat}(h:s.length<=n):(M.freeStep ss s i).length<=n+1:=by unfold M.freeStep;cases decide (M.many ss (i:Int)=0)<;>simp<;>omega
theorem bLz{h:DHost}(h3:h.Guests.length=3)(hall:h.Guests.all M.guestOk=true):lT h=some (M.takers (M.slots h.Guests)):=by
 have hin:∀(k:Nat) (g:DGuest) (xs:List Int) (h1:(k:Int)<(h.Guests.length:Int)) (h2:g∈h.Guests) (h3:h.Guests.getD k default=g) (h4:Tl (8*k) xs),
  iter (lB h (xs,(k:Int))) (xs,0)=some (.ret (.go (g.Pages.foldl M.bump xs)))/\Tl (8*k+g.Pages.length) (g.Pages.foldl M.bump xs):=by
  intro k g xs h1 h2 h3 h4;obtain⟨g1,g2⟩:=mK (List.all_eq_true.1 hall g h2)
  exact nM (xs:=g.Pages) (step:=lB h (xs,(k:Int))) (λs j=>(s,j)) M.bump (λs=> .go s) (λj s=>Tl (8*k+j) s) (λj x s a1 a2 a3 a4=>by
   have hx:=List.all_eq_true.1 g1 x a2;have hr:=kL hx;have hl:=a4.len;refine⟨?_,a4.bump hx⟩;simp only[lB,iT,h3,dT a1,cTq];rw[aA ⟨by omega,h1⟩,aA ⟨by omega,h1⟩,aA ⟨by omega,a1⟩,a3];unfold M.bump;by_cases e:x.Frame=-1;{rw[dF (p:=(0:Int)<=x.Frame) (by omega),dT e];simp only[cTq,cFq,oB,JO.run,sX];rw[aJ (by omega) (by omega)]}
   · have q1:=a4.low x.Frame.toNat (by omega);have q2:=a4.top x.Frame.toNat (by omega);rw[dT (p:=(0:Int)<=x.Frame) (by omega),dF e,cTq,aA ⟨by omega,by omega⟩,aA ⟨by omega,by omega⟩,aJ (by omega) (by omega)];simp only[cTq,cFq,oB,JO.run,sX];rw[aJ (by omega) (by omega)]) (λs _=>by
   simp only[lB,iT,h3];rw[aA ⟨by omega,h1⟩,dF (by omega),cFq]) xs h4
 have key:=(nM (xs:=h.Guests) (step:=nY h) (λs j=>(s,j)) (λs g=>g.Pages.foldl M.bump s) (λs=> .go s) (λk s=>Tl (8*k) s) (λk g s a1 a2 a3 a4=>by
  obtain⟨b1,b2⟩:=hin k g s a1 a2 a3 a4;refine⟨?_,b2.mono (by have:=(mK (List.all_eq_true.1 hall g a2)).2;omega)⟩;simp only[nY,dT a1,cTq];rw[b1];simp only[oB,LO.val,JO.run,yY];rw[aJ (by omega) (by omega)]) (λs _=>by
  simp only[nY];rw[dF (by omega),cFq]) (List.replicate 20 0) (Tl.zero.mono (by omega))).1
 unfold lT;rw[show Int.toNat (20:Int)=20 from rfl,key];simp only[oB,LO.val,JO.run,yV];rw[qO];rfl
theorem bHl{h:DHost}(hs:SmallH h)(hk:HOk h):lT h=some (M.takers (M.slots h.Guests)):=bLz hk.three hk.all
theorem aRy{ss:List DSlot}(hss:ss.all M.slotOk=true){i:Nat}(hi:i<20){s:List Int}(hl:s.length<=i){Y:Type}:
 (grd ((0:Int)<=(i:Int)/\(i:Int)<((List.length (M.takers ss):Nat):Int)) (cond (decide ((List.getD (M.takers ss) i default)=(0:Int))) (grd ((List.length s+List.length ([(i:Int)]:List Int))*8<=2^47/\List.length s+List.length ([(i:Int)]:List Int)<=2^47) (some (JO.go (s++([(i:Int)]:List Int))))) (some (JO.go s))):Option (JO (List Int) Y))=some (.go (M.freeStep ss s i)):=by
 have hl2:=qT hss;have e0:decide ((M.takers ss).getD i default=0)=decide (M.many ss (i:Int)=0):=(by rw[decide_eq_decide,uM hss hi];omega);rw[aA ⟨by omega,by omega⟩,e0];unfold M.freeStep;(cases decide (M.many ss (i:Int)=0)with|true=>rw[cTq,cTq,aA ⟨by simp;omega,by simp;omega⟩]|false=>rfl)
theorem aWs{gs:List DGuest}(hl:gs.length<=1048576)(h:gs.all M.guestOk=true):mO gs=some (M.free (M.slots gs)):=by
 have hss:=tW h;have hl2:=qT hss;unfold mO;rw[aLr hl h,oB]
 have key:=(aCz (n:=20) (step:=kK (M.takers (M.slots gs))) (λs j=>(s,j)) (M.freeStep (M.slots gs)) (λs=>JO.go s) (λi s=>s.length<=i) (λi s hi hs=>by
  refine⟨?_,aHv hs⟩;simp only[kK,iT];rw[dT (p:=(i:Int)<_) (by omega),cTq,aRy hss hi hs,oB];simp only[JO.run,uC];rw[aJ (by omega) (by omega)]) (λs _=>by
  simp only[kK];rw[dF (by omega),cFq]) [] (by simp)).1
 rw[key];rfl
theorem aOs{h:DHost}(hs:SmallH h):mB h=some (M.hostFree h):=by
 unfold mB M.hostFree;rw[aLq hs,oB];cases hh:M.hostOk h with
 |false=>rfl
 |true=>
  have hk:=lN.1 hh;have hss:=tW hk.all;rw[bT,cFq,bHl hs hk,oB]
  have key:=(aCz (n:=20) (step:=lX (M.takers (M.slots h.Guests))) (λs j=>(s,j)) (M.freeStep (M.slots h.Guests)) (λs=>JO.go s) (λi s=>s.length<=i) (λi s hi hs=>by
   refine⟨?_,aHv hs⟩;simp only[lX,iT];rw[dT (p:=(i:Int)<20) (by omega),cTq,aRy hss hi hs,oB];simp only[JO.run,wG];rw[aJ (by omega) (by omega)]) (λs _=>by
   simp only[lX];rfl) [] (by simp)).1
  rw[key];rfl
namespace M
def zeroH:DHost:=⟨[],[]⟩
def inFrame(h:DHost)(g page frame:Int):DHost:=⟨over h.Words (frame.toNat*8) 8 (pageWords h.Words ((h.Guests.getD g.toNat default).Pages.getD page.toNat default)),h.Guests.set g.toNat ⟨(h.Guests.getD g.toNat default).Live,(h.Guests.getD g.toNat default).C,(h.Guests.getD g.toNat default).Pages.set page.toNat ⟨frame,true,((h.Guests.getD g.toNat default).Pages.getD page.toNat default).Dirty⟩,(h.Guests.getD g.toNat default).In,(h.Guests.getD g.toNat default).Out⟩⟩
def inFree(h:DHost)(g page:Int):DHost×Bool:=bif decide ((free (slots h.Guests)).length=0)then(zeroH,false)else(inFrame h g page ((free (slots h.Guests)).getD 0 default),true)
noncomputable def hostFill (h:DHost)(g page:Int):DHost×Bool:=bif there h g&&inR 0 7 page then
 (bif decide (((h.Guests.getD g.toNat default).Pages.getD page.toNat default).Frame=-1)then inFree h g page else(h,true))
 else(zeroH,false)
noncomputable def hostCopy (h:DHost)(g page:Int):DHost×Bool:=bif there h g&&inR 0 7 page then
 (bif decide (((h.Guests.getD g.toNat default).Pages.getD page.toNat default).Frame=-1)then(zeroH,false)
  else bif decide (many (slots h.Guests) ((h.Guests.getD g.toNat default).Pages.getD page.toNat default).Frame=1)then(inFrame h g page ((h.Guests.getD g.toNat default).Pages.getD page.toNat default).Frame,true)
  else inFree h g page)
 else(zeroH,false)
end M
theorem aIz{ss:List DSlot}{i:Nat}(hi:i<(M.free ss).length):0<=(M.free ss).getD i default/\(M.free ss).getD i default<20:=by have hm:=dS hi;rw[aLj]at hm;obtain⟨j,hj,e⟩:=List.mem_map.1 hm;have:=(List.mem_filter.1 hj).1;rw[List.mem_range]at this;rw[aLj,<-e];omega
theorem lL{h:DHost}(hs:SmallH h)(hk:HOk h):dK h=some h:=by unfold dK;rw[kO hs.words,aNv hs.guests hs.all hk.all];rfl
section
variable {h : DHost} {g : Int} {x : DGuest}
theorem aRa(hs:SmallH h)(l:Live h g x){p f:Int}(p0:0<=p)(p1:p<=7)(f0:0<=f)(f1:f<20):iJ h g p f=some (M.inFrame h g p f):=by have:=l.ok.three;have:=l.lo;have:=l.hi;have hpl:=l.pages;have hlw:=l.ok.len;have hsl:=cK l (p:=p.toNat) (by omega);unfold iJ;rw[lL hs l.ok,oB];simp only[l.at_];rw[aA ⟨l.lo,by omega⟩,aA ⟨p0,by omega⟩,bIv f0 (by omega) (by omega),oB,aA rfl,aA (by simp only[];omega)];show Option.bind (eY h.Words (x.Pages.getD p.toNat default)) _=_;rw[aKo hlw hsl,oB,aA ⟨l.lo,by omega⟩,aA ⟨p0,by omega⟩];unfold M.inFrame;rw[l.at_]
theorem aTk(hs:SmallH h)(l:Live h g x){p:Int}(p0:0<=p)(p1:p<=7):jC h g p=some (M.inFree h g p):=by unfold jC M.inFree;rw[aWs hs.guests l.ok.all,oB];by_cases e:(M.free (M.slots h.Guests)).length=0;{rw[dT e,dT (by omega)];rfl};{have hf:=aIz (ss:=M.slots h.Guests) (i:=0) (by omega);rw[dF e,dF (by omega),cFq,cFq,aA ⟨by omega,by omega⟩,aRa hs l p0 p1 hf.1 hf.2];rfl}
end
theorem bCb{h:DHost}{g p:Int}(hs:SmallH h):pG h g p=some (M.hostFill h g p):=by unfold pG M.hostFill;rw[aDq hs,oB];(cases ht:M.there h g with|false=>rfl|true=>have l:=dU hs ht;generalize hx:h.Guests.getD g.toNat default=x at l;have:=l.ok.three;have:=l.lo;have:=l.hi;have hpl:=l.pages;rw[bT,cFq,aFa,oB,Bool.true_and];(cases hp:M.inR 0 7 p with|false=>rfl|true=>obtain⟨p0,p1⟩:=M.inR_iff.1 hp;rw[bT,cFq,cTq,aA ⟨l.lo,by omega⟩,aA ⟨p0,by omega⟩];(cases decide ((x.Pages.getD p.toNat default).Frame=-1)with|false=>rw[bF,cTq,lL hs l.ok];rfl|true=>rw[bT,cFq,aTk hs l p0 p1];rfl)))
theorem bDd{h:DHost}{g p:Int}(hs:SmallH h):pF h g p=some (M.hostCopy h g p):=by
 unfold pF M.hostCopy;rw[aDq hs,oB];cases ht:M.there h g with
 |false=>rfl
 |true=>
  have l:=dU hs ht;generalize hx:h.Guests.getD g.toNat default=x at l;have:=l.ok.three;have:=l.lo;have:=l.hi;have hpl:=l.pages;rw[bT,cFq,aFa,oB,Bool.true_and];cases hp:M.inR 0 7 p with
  |false=>rfl
  |true=>
   obtain⟨p0,p1⟩:=M.inR_iff.1 hp;have hsl:=cK l (p:=p.toNat) (by omega);have hss:=tW l.ok.all;have hl2:=qT hss;rw[bT,cFq,cTq,aA ⟨l.lo,by omega⟩,aA ⟨p0,by omega⟩];by_cases e:(x.Pages.getD p.toNat default).Frame=-1;{rw[dT e];rfl}
   · have e0:decide ((M.takers (M.slots h.Guests)).getD (x.Pages.getD p.toNat default).Frame.toNat default=1)=decide (M.many (M.slots h.Guests) (x.Pages.getD p.toNat default).Frame=1):=by
      rw[decide_eq_decide,uM hss (by omega),show(((x.Pages.getD p.toNat default).Frame.toNat:Nat):Int)=(x.Pages.getD p.toNat default).Frame by omega];omega
     rw[dF e,cFq,cFq,aLr hs.guests l.ok.all,oB,aA ⟨by omega,by omega⟩,e0];(cases decide (M.many (M.slots h.Guests) (x.Pages.getD p.toNat default).Frame=1)with|true=>rw[cTq,cTq,aRa hs l p0 p1 (by omega) (by omega)];rfl|false=>rw[cFq,cFq,aTk hs l p0 p1];rfl)
section
variable {ws : List Int}
theorem bFf{f:Nat}(h:f*8+8<=ws.length):over ws (f*8) 8 (M.page ws f)=ws:=by have hp:(M.page ws f).length=8:=aMs h;refine vL (n:=ws.length) (nN h) rfl λa ha=>?_;rw[vK hp h];by_cases h1:a<f*8;{rw[if_pos h1]};{by_cases h2:a<f*8+8;{rw[if_neg h1,if_pos h2];show((ws.drop (f*8)).take 8).getD (a-f*8) default=_;rw[aVq (by omega)];congr 1;omega};{rw[if_neg h1,if_neg h2]}}
theorem bHm{o f:Nat}(h:f*8+8<=ws.length):over ws o 8 (List.take (ws.length-f*8) (List.drop (f*8) ws))=over ws o 8 (M.page ws f):=by have hp:(M.page ws f).length=8:=aMs h;have e1:List.take (ws.length-f*8) (List.drop (f*8) ws)=List.drop (f*8) ws:=List.take_of_length_le (by rw[List.length_drop];exact Nat.le_refl _);unfold over;rw[e1,hp,List.length_drop,show min 8 (ws.length-f*8)=8 by omega,Nat.min_self,List.take_of_length_le (l:=M.page ws f) (by omega)];rfl
theorem bGr{o i:Nat}(h:o+8<=ws.length)(hi:i<8):(over ws o i (List.replicate i 0)).set (o+i) 0=over ws o (i+1) (List.replicate (i+1) 0):=by refine vL (n:=ws.length) (by rw[lS,nN (by omega)]) (nN (by omega)) λa ha=>?_;rw[vF (by rw[nN (by omega)];omega),vK (by simp) (by omega),vK (by simp) (by omega)];by_cases h1:a<o;{rw[if_neg (by omega),if_pos h1,if_pos h1]};{by_cases h2:a<o+i;{rw[if_neg (by omega),if_neg h1,if_pos h2,if_neg h1,if_pos (by omega),cE (by rw[List.length_replicate];omega),List.getElem_replicate,cE (by rw[List.length_replicate];omega),List.getElem_replicate]};{by_cases h3:a=o+i;{rw[if_pos h3.symm,if_neg h1,if_pos (by omega),cE (by rw[List.length_replicate];omega),List.getElem_replicate]};{rw[if_neg (by omega),if_neg h1,if_neg h2,if_neg h1,if_neg (by omega)]}}}
theorem bEq{o:Nat}:over ws o 0 []=ws:=by simp[over]
end
theorem bHa{ws free:List Int}{f:Int}(hf:free.getD 0 default=f)(h0:0<=f)(h1:f<20)(hw:ws.length=160)(hl:0<free.length):iter (iW free) (ws,0)=some (.ret (.go (over ws (f.toNat*8) 8 (List.replicate 8 0)))):=by
 have key:=bFy (n:=8) (step:=iW free) (λi=>(over ws (f.toNat*8) i (List.replicate i 0),(i:Int))) (λ_=>true) (JO.go (over ws (f.toNat*8) 8 (List.replicate 8 0))) (JO.go []) (λi hi _=>by
  have hl2:(over ws (f.toNat*8) i (List.replicate i 0)).length=160:=(by rw[nN (by omega),hw]);simp only[iW,hf,hl2];rw[dT (p:=(i:Int)<8) (by omega),cTq,aA ⟨by omega,by omega⟩,aJ (z:=f*8) (by omega) (by omega),aJ (z:=f*8+(i:Int)) (by omega) (by omega),aJ (z:=(i:Int)+1) (by omega) (by omega),aA ⟨by omega,by omega⟩,show Int.toNat (f*8+(i:Int))=f.toNat*8+i by omega,bGr (by omega) hi];rfl) (λ_=>by
  simp only[iW];rfl)
 have e0:((List.range 8).all λ_=>true)=true:=(by decide);rw[e0]at key;simp only[List.replicate_zero,bEq,cTq]at key;exact key
theorem bGu{s:DSlot}(h:M.slotOk s=true)(e:s.Frame=-1):s.Dirty=false:=by unfold M.slotOk at h;rw[dT e,cTq]at h;cases hd:s.Dirty;{rfl};{rw[hd]at h;simp at h}
theorem bDp{h:DHost}{g p:Int}(hs:SmallH h):jI h g p=some (M.hostFill h g p):=by unfold jI M.hostFill;rw[aBt hs,oB];(cases ht:M.there h g with|false=>rfl|true=>have l:=dU hs ht;have hfr:=aOs hs;unfold M.hostFree at hfr;rw[lN.2 l.ok,cTq]at hfr;generalize hx:h.Guests.getD g.toNat default=x at l;have:=l.ok.three;have:=l.lo;have:=l.hi;have hpl:=l.pages;rw[bT,cFq,rX,oB,Bool.true_and];(cases hp:M.inR 0 7 p with|false=>rfl|true=>obtain⟨p0,p1⟩:=M.inR_iff.1 hp;have hsl:=cK l (p:=p.toNat) (by omega);have hso:=List.all_eq_true.1 l.slots _ (dS (k:=p.toNat) (by omega));rw[bT,cFq,cTq,aFs hs l.ok.all,oB,aA ⟨l.lo,by omega⟩,aA ⟨p0,by omega⟩];by_cases e:(x.Pages.getD p.toNat default).Frame=-1;{rw[dT e,dF (by omega),cFq,cTq,hfr,oB];unfold M.inFree;by_cases e2:(M.free (M.slots h.Guests)).length=0;{rw[dT e2,dT (by omega)];rfl};{have hf:=aIz (ss:=M.slots h.Guests) (i:=0) (by omega);rw[dF e2,dF (by omega),cFq,cFq,bHa rfl hf.1 hf.2 l.ok.len (by omega)];simp only[oB,LO.val,JO.run,wL,hx];rw[aA ⟨l.lo,by omega⟩,aA ⟨by omega,by omega⟩,aA ⟨p0,by omega⟩];unfold M.inFrame M.pageWords;rw[hx,dT e,cTq,bGu hso e]}};{rw[dF e,dT (by omega)];rfl}))
theorem aHw{h:DHost}{g:Int}{x:DGuest}(l:Live h g x){p:Nat}(hp:p<8):1<=M.many (M.slots h.Guests) (x.Pages.getD p default).Frame:=by have:=l.ok.three;have:=l.lo;have:=l.hi;have hpl:=l.pages;unfold M.many;refine List.countP_pos_iff.2 ⟨x.Pages.getD p default,?_,by simp⟩;refine List.mem_flatMap.2 ⟨x,?_,dS (by omega)⟩;rw[<-l.at_];exact dS (by omega)
theorem aHl{h:DHost}{g:Int}{x:DGuest}(l:Live h g x){p:Nat}(hp:p<8):x.Pages.getD p default∈M.slots h.Guests:=by have:=l.ok.three;have:=l.lo;have:=l.hi;have hpl:=l.pages;refine List.mem_flatMap.2 ⟨x,?_,dS (by omega)⟩;rw[<-l.at_];exact dS (by omega)
theorem bDb{h:DHost}{g p:Int}(hs:SmallH h):jK h g p=some (M.hostCopy h g p):=by unfold jK M.hostCopy;rw[aBt hs,oB];(cases ht:M.there h g with|false=>rfl|true=>have l:=dU hs ht;have hfr:=aOs hs;unfold M.hostFree at hfr;rw[lN.2 l.ok,cTq]at hfr;generalize hx:h.Guests.getD g.toNat default=x at l;have:=l.ok.three;have:=l.lo;have:=l.hi;have hpl:=l.pages;have hlw:=l.ok.len;rw[bT,cFq,rX,oB,Bool.true_and];(cases hp:M.inR 0 7 p with|false=>rfl|true=>obtain⟨p0,p1⟩:=M.inR_iff.1 hp;have hsl:=cK l (p:=p.toNat) (by omega);have hss:=tW l.ok.all;have hl2:=qT hss;have hm1:=aHw l (p:=p.toNat) (by omega);have hal:=List.all_eq_true.1 l.ok.alone _ (aHl l (p:=p.toNat) (by omega));rw[bT,cFq,cTq,aA ⟨l.lo,by omega⟩,aA ⟨p0,by omega⟩];by_cases e:(x.Pages.getD p.toNat default).Frame=-1;{rw[dT e,dT (by omega)];rfl};{have hpf:(x.Pages.getD p.toNat default).Frame.toNat*8+8<=h.Words.length:=(by omega);have hpw:M.pageWords h.Words (x.Pages.getD p.toNat default)=M.page h.Words (x.Pages.getD p.toNat default).Frame.toNat:=(by unfold M.pageWords;rw[dF e,cFq]);have same:JO.run (.go (h.Words,(x.Pages.getD p.toNat default).Frame)) (mH h g p h)=some (M.inFrame h g p (x.Pages.getD p.toNat default).Frame,true):=(by simp only[JO.run,mH,hx];rw[aA ⟨l.lo,by omega⟩,aA ⟨p0,by omega⟩];unfold M.inFrame;rw[hx,hpw,bFf hpf]);rw[dF e,dF (by omega),cFq,cFq,aFs hs l.ok.all,oB,aA ⟨l.lo,by omega⟩,aA ⟨p0,by omega⟩];(cases hw:(x.Pages.getD p.toNat default).Write with|true=>rw[hw,bT,Bool.false_or,decide_eq_true_eq]at hal;rw[bT,cFq,dT (by omega),cTq,oB,same]|false=>have e0:decide ((1:Int)<(M.takers (M.slots h.Guests)).getD (x.Pages.getD p.toNat default).Frame.toNat default)=!decide (M.many (M.slots h.Guests) (x.Pages.getD p.toNat default).Frame=1):=(by rw[uM hss (by omega),show(((x.Pages.getD p.toNat default).Frame.toNat:Nat):Int)=(x.Pages.getD p.toNat default).Frame by omega];by_cases q:M.many (M.slots h.Guests) (x.Pages.getD p.toNat default).Frame=1;{rw[dT q,dF (by omega)];rfl};{rw[dF q,dT (by omega)];rfl});rw[bF,cTq,bHl hs l.ok,oB,aA ⟨by omega,by omega⟩,e0];(cases decide (M.many (M.slots h.Guests) (x.Pages.getD p.toNat default).Frame=1)with|true=>rw[bT,cFq,cTq,oB,same]|false=>rw[bF,cTq,cFq,hfr,oB];unfold M.inFree;by_cases e2:(M.free (M.slots h.Guests)).length=0;{rw[dT e2,dT (by omega)];rfl};{have hf:=aIz (ss:=M.slots h.Guests) (i:=0) (by omega);generalize hff:(M.free (M.slots h.Guests)).getD 0 default=f at hf;rw[dF e2,dF (by omega),cFq,cFq,aA ⟨by omega,by omega⟩,aA ⟨by omega,by omega⟩,aJ (z:=f*8) (by omega) (by omega),aJ (z:=f+1) (by omega) (by omega),aJ (z:=(f+1)*8) (by omega) (by omega),aJ (z:=(x.Pages.getD p.toNat default).Frame*8) (by omega) (by omega),aA ⟨by omega,by omega,by omega⟩,aA ⟨by omega,by omega,by omega⟩,aA ⟨by omega,by omega⟩,oB];rw[show Int.toNat (f*8)=f.toNat*8 by omega,show Int.toNat ((f+1)*8)-f.toNat*8=8 by omega,show Int.toNat ((h.Words.length:Nat):Int)-Int.toNat ((x.Pages.getD p.toNat default).Frame*8)=h.Words.length-(x.Pages.getD p.toNat default).Frame.toNat*8 by omega,show Int.toNat ((x.Pages.getD p.toNat default).Frame*8)=(x.Pages.getD p.toNat default).Frame.toNat*8 by omega,bHm hpf];simp only[JO.run,mH,hx];rw[aA ⟨l.lo,by omega⟩,aA ⟨p0,by omega⟩];unfold M.inFrame;rw[hx,hpw]}))}))
noncomputable def oZ (_:DSlot)(k:Int):DSlot×Int:=(⟨k,decide (Int.tmod (k+1) 3=0),decide (Int.tmod (k+1+1) 3=0)⟩,k+1+1+1)
theorem aMa(x:DSlot)(k:Int):k<=(oZ x k).2/\(oZ x k).2<=k+3:=by simp only[oZ];omega
theorem lE{z:Int}(h0:0<=z)(h1:z<=1152921504606846976):w64 z=z:=aJ (by omega) (by omega)
theorem aXe{xs:List DSlot}{k:Int}(h:xs.length<=1048576)(h0:0<=k)(h1:k<=4503599627370496):lC xs k=some ((dM oZ xs k).1,(dM oZ xs k).2):=by have key:=aQy (m:=oZ) (C:=3) (B:=9007199254740992) (step:=iB) (xs:=xs) (k:=k) (λx _ k=>aMa x k) h0 (by omega) (by omega) (λzs i q hz hi _ hq hb=>by have e1:(i:Int)<(zs.length:Int):=(by omega);simp only[iB,dT e1,cTq];rw[aA ⟨by omega,e1⟩,iT,lE (z:=q+1) (by omega) (by omega),lE (z:=q+1+1) (by omega) (by omega),lE (z:=q+1+1+1) (by omega) (by omega),lE (z:=(i:Int)+1) (by omega) (by omega)];rw[aA ⟨by omega,e1⟩,aA ⟨by omega,e1⟩];rfl) (λzs q _=>by simp only[iB];rw[dF (by omega),cFq]);unfold lC;rw[key];rfl
theorem aWd{xs:List DSlot}{k:Int}(h:xs.length<=1048576)(h0:0<=k)(h1:k<=4503599627370496):oA (dM oZ xs k).1 k=some (dM oZ xs k).2:=by have key:=aQw (m:=oZ) (C:=3) (B:=9007199254740992) (step:=lF) (xs:=xs) (k:=k) (λx _ k=>aMa x k) h0 (by omega) (by omega) (λzs i x q hz hi _ hq hb hg=>by have e1:(i:Int)<(zs.length:Int):=(by omega);simp only[lF,dT e1,cTq];rw[aA ⟨by omega,e1⟩,iT,hg,lE (z:=q+1) (by omega) (by omega),lE (z:=q+1+1) (by omega) (by omega),lE (z:=q+1+1+1) (by omega) (by omega),lE (z:=(i:Int)+1) (by omega) (by omega)];rw[aA ⟨by omega,e1⟩,aA ⟨by omega,e1⟩];simp[oZ]) (λzs q _=>by simp only[lF];rw[dF (by omega),cFq]);unfold oA;rw[key];rfl
noncomputable def kB (g:DGuest)(k:Int):DGuest×Int:=
 let q:=k+1+(g.C.Regs.length:Int);let p:=dM oZ g.Pages (q+1+1+1+1+1+1+1+1+1+1+1+1)
 (⟨decide (Int.tmod k 3=0),⟨jZ (k+1) g.C.Regs.length,q,q+1,q+1+1,q+1+1+1,decide (Int.tmod (q+1+1+1+1) 3=0),q+1+1+1+1+1,q+1+1+1+1+1+1,q+1+1+1+1+1+1+1,
  decide (Int.tmod (q+1+1+1+1+1+1+1+1) 3=0),decide (Int.tmod (q+1+1+1+1+1+1+1+1+1) 3=0),decide (Int.tmod (q+1+1+1+1+1+1+1+1+1+1) 3=0),decide (Int.tmod (q+1+1+1+1+1+1+1+1+1+1+1) 3=0)⟩,
  p.1,jZ p.2 g.In.length,jZ (p.2+g.In.length) g.Out.length⟩,p.2+g.In.length+g.Out.length)
theorem aHi{xs:List DSlot}{k:Int}(h:xs.length<=1048576):k<=(dM oZ xs k).2/\(dM oZ xs k).2<=k+3145728:=by have:=aMq (m:=oZ) (C:=3) (xs:=xs) (k:=k) λx _ k=>aMa x k;omega
theorem aFw{g:DGuest}(h:SmallG g)(k:Int):k<=(kB g k).2/\(kB g k).2<=k+8388608:=by have:=h.c.regs;have:=h.i;have:=h.o;have:=aHi (k:=k+1+(g.C.Regs.length:Int)+1+1+1+1+1+1+1+1+1+1+1+1) h.pages;simp only[kB];omega
theorem aSb{xs:List DGuest}{k:Int}(h:xs.length<=1048576)(hs:∀g∈xs,SmallG g)(h0:0<=k)(h1:k<=4503599627370496-8796093022208-8388608):jY xs k=some ((dM kB xs k).1,(dM kB xs k).2):=by have key:=aQy (m:=kB) (C:=8388608) (B:=4503599627370496-8388608) (step:=gP) (xs:=xs) (k:=k) (λx hx k=>aFw (hs x hx) k) h0 (by omega) (by omega) (λzs i q hz hi hm hq hb=>by have hg:=hs _ hm;generalize hgg:zs.getD i default=g at hg;have:=hg.c.regs;have:=hg.pages;have:=hg.i;have:=hg.o;have e1:(i:Int)<(zs.length:Int):=(by omega);have g0:(0:Int)<=(i:Int)/\(i:Int)<(zs.length:Int):=⟨by omega,e1⟩;have hp:=aHi (k:=q+1+(g.C.Regs.length:Int)+1+1+1+1+1+1+1+1+1+1+1+1) hg.pages;simp only[gP,dT e1,cTq,iT,hgg,aA g0];rw[lE (z:=q+1) (by omega) (by omega),rW (by omega) (by omega) (by omega),oB];simp only[];generalize hr:q+1+(g.C.Regs.length:Int)=r at hp;rw[aA (by rw[iU]),lE (z:=r+1) (by omega) (by omega),lE (z:=r+1+1) (by omega) (by omega),lE (z:=r+1+1+1) (by omega) (by omega),lE (z:=r+1+1+1+1) (by omega) (by omega),lE (z:=r+1+1+1+1+1) (by omega) (by omega),lE (z:=r+1+1+1+1+1+1) (by omega) (by omega),lE (z:=r+1+1+1+1+1+1+1) (by omega) (by omega),lE (z:=r+1+1+1+1+1+1+1+1) (by omega) (by omega),lE (z:=r+1+1+1+1+1+1+1+1+1) (by omega) (by omega),lE (z:=r+1+1+1+1+1+1+1+1+1+1) (by omega) (by omega),lE (z:=r+1+1+1+1+1+1+1+1+1+1+1) (by omega) (by omega),lE (z:=r+1+1+1+1+1+1+1+1+1+1+1+1) (by omega) (by omega),lE (z:=(i:Int)+1) (by omega) (by omega)];rw[aXe hg.pages (by omega) (by omega),oB,aA (by rw[wA]),rW (by omega) (by simp only;omega) (by simp only;omega),oB,aA (by rw[iU]),rW (by omega) (by simp only;omega) (by simp only;omega),oB,aA (by rw[iU])];simp only[kB,hr]) (λzs q _=>by simp only[gP];rw[dF (by omega),cFq]);unfold jY;rw[key];rfl
theorem aSg{xs:List DGuest}{k:Int}(h:xs.length<=1048576)(hs:∀g∈xs,SmallG g)(h0:0<=k)(h1:k<=4503599627370496-8796093022208-8388608):mN (dM kB xs k).1 k=some (dM kB xs k).2:=by have key:=aQw (m:=kB) (C:=8388608) (B:=4503599627370496-8388608) (step:=kI) (xs:=xs) (k:=k) (λx hx k=>aFw (hs x hx) k) h0 (by omega) (by omega) (λzs i g q hz hi hm hq hb hgg=>by have hg:=hs _ hm;have:=hg.c.regs;have:=hg.pages;have:=hg.i;have:=hg.o;have e1:(i:Int)<(zs.length:Int):=(by omega);have g0:(0:Int)<=(i:Int)/\(i:Int)<(zs.length:Int):=⟨by omega,e1⟩;have hp:=aHi (k:=q+1+(g.C.Regs.length:Int)+1+1+1+1+1+1+1+1+1+1+1+1) hg.pages;unfold kI;rw[dT e1,cTq,aA g0,iT,hgg];simp(disch:=omega) only[kB,lE,beq_self_eq_true,decide_true,bT,cFq,aKe,oB,dF,aA g0,aWd hg.pages]) (λzs q _=>by simp only[kI];rw[dF (by omega),cFq]);unfold mN;rw[key];rfl
noncomputable def mL (h:DHost)(k:Int):DHost×Int:=(⟨jZ k h.Words.length,(dM kB h.Guests (k+h.Words.length)).1⟩,(dM kB h.Guests (k+h.Words.length)).2)
theorem aEl{xs:List DGuest}{k:Int}(h:xs.length<=1048576)(hs:∀g∈xs,SmallG g):k<=(dM kB xs k).2/\(dM kB xs k).2<=k+8796093022208:=by have:=aMq (m:=kB) (C:=8388608) (xs:=xs) (k:=k) λx hx k=>aFw (hs x hx) k;omega
theorem vO{h:DHost}(hs:SmallH h){k:Int}(h0:0<=k)(h1:k<=1000000000):fL h k=some ((mL h k).1.Words,(mL h k).1.Guests,(mL h k).2):=by have:=hs.words;unfold fL;rw[rW (by omega) h0 (by omega),oB,aA (by rw[iU]),aSb hs.guests hs.all (by simp only;omega) (by simp only;omega),oB,aA (by rw[wA])];rfl
theorem aYa{h:DHost}(hs:SmallH h){k:Int}(h0:0<=k)(h1:k<=1000000000):eR (mL h k).1 k=some (mL h k).2:=by have:=hs.words;have:=aEl (k:=k+h.Words.length) hs.guests hs.all;unfold eR;simp only[mL];rw[aKe (by omega) h0 (by omega),oB,dF (by omega),cFq,aSg hs.guests hs.all (by omega) (by omega),oB,dF (by omega),cFq]
theorem aJq{h:DHost}(hs:SmallH h){k:Int}(h0:0<=k)(h1:k<=1000000000):eR ⟨(mL h k).1.Words,(mL h k).1.Guests⟩ k=some (mL h k).2:=aYa hs h0 h1
theorem aHq{h:DHost}{k:Int}:(mL h k).1.Words.length=h.Words.length/\(mL h k).1.Guests.length=h.Guests.length:=by simp[mL,iU,wA]
theorem zX{h:DHost}(hs:SmallH h){k:Int}(h0:0<=k):0<=(mL h k).2:=by have:=aEl (k:=k+h.Words.length) hs.guests hs.all;simp only[mL];omega
theorem aEz:SmallH M.zeroH:=⟨by simp[M.zeroH],by simp[M.zeroH],by simp[M.zeroH]⟩
theorem vP{h:DHost}{g p f:Int}{x:DGuest}(hs:SmallH h)(l:Live h g x)(f0:0<=f)(f1:f<20):SmallH (M.inFrame h g p f):=by have hlw:=l.ok.len;unfold M.inFrame;refine⟨?_,by simpa using hs.guests,λy hy=>?_⟩;{rw[nN (by omega)];exact hs.words};{rcases List.mem_or_eq_of_mem_set hy with hy|rfl;{exact hs.all y hy};{rw[l.at_];exact⟨l.small.c,by simpa using l.small.pages,l.small.i,l.small.o⟩}}
namespace M
def bCc(xs:List Int):Bool:=(List.range 8).all λk=>decide (xs.getD k default=0)
def used(mem:List Int):Nat->Nat
 |0=>0
 |p+1=>used mem p+(bif bCc (page mem p)then 0 else 1)
def bLy(mem free:List Int)(p:Nat):DSlot:=bif bCc (page mem p)then⟨-1,false,false⟩else⟨free.getD (used mem p) default,true,false⟩
def bIh(mem free:List Int)(n:Nat):List DSlot:=(List.range n).map (bLy mem free)
def aMj(mem free:List Int)(ws:List Int):Nat->List Int
 |0=>ws
 |p+1=>bif bCc (page mem p)then aMj mem free ws p else over (aMj mem free ws p) ((free.getD (used mem p) default).toNat*8) 8 (page mem p)
noncomputable def bSi (gs:List DGuest):Int:=bif (gs.getD 0 default).Live then(bif (gs.getD 1 default).Live then(bif (gs.getD 2 default).Live then-1 else 2)else 1)else 0
noncomputable def bUn (h:DHost)(b:DBare):DHost:=⟨aMj b.Mem (free (slots h.Guests)) h.Words 8,h.Guests.set (bSi h.Guests).toNat ⟨true,b.C,bIh b.Mem (free (slots h.Guests)) 8,b.In,b.Out⟩⟩
end M
theorem bKc{ss:List DSlot}{i:Nat}(hi:i<(M.free ss).length):M.many ss ((M.free ss).getD i default)=0:=by have hm:=dS hi;have key:∀x∈M.free ss,M.many ss x=0:=(by intro x hx;rw[aLj]at hx;obtain⟨j,hj,rfl⟩:=List.mem_map.1 hx;exact of_decide_eq_true (List.mem_filter.1 hj).2);exact key _ hm
def M.fr(mem:List Int)(ss:List DSlot)(p:Nat):Int:=(M.free ss).getD (M.used mem p) default
section
variable {mem ws : List Int} {ss : List DSlot} (hu : M.used mem 8 ≤ (M.free ss).length)
include hu
end
theorem aId{xs:List Int}:M.wordsOk xs=true↔∀a,a<xs.length->M.wordOk (xs.getD a default)=true:=by simp only[M.wordsOk,List.all_eq_true];constructor;{intro h a ha;exact h _ (dS ha)};{intro h x hx;obtain⟨i,hi,rfl⟩:=List.mem_iff_getElem.1 hx;have:=h i hi;rwa[cE hi]at this}
theorem aRs{x:DGuest}{s:DSlot}:∀{gs:List DGuest} {i:Nat},s∈M.slots (gs.set i x)->s∈M.slots gs\/s∈x.Pages
 |[],i,h=>by simp[M.slots]at h
 |g::gs,0,h=>by simp only[List.set_cons_zero,M.slots,List.flatMap_cons,List.mem_append]at h ⊢;rcases h with h|h;{exact .inr h};{exact .inl (.inr h)}
 |g::gs,i+1,h=>by simp only[List.set_cons_succ,M.slots,List.flatMap_cons,List.mem_append]at h ⊢;rcases h with h|h;{exact .inl (.inl h)};{rcases aRs h with h|h;{exact .inl (.inr h)};{exact .inr h}}
theorem aIa{s':DSlot}{f:Int}:∀{ps:List DSlot} {j:Nat},j<ps.length->M.many (ps.set j s') f+(if(ps.getD j default).Frame=f then 1 else 0)=M.many ps f+(if s'.Frame=f then 1 else 0)
 |[],j,h=>by simp at h
 |s::ps,0,_=>by rw[List.set_cons_zero,wP,wP];show M.many ps f+(if s'.Frame=f then 1 else 0)+(if s.Frame=f then 1 else 0)=_;omega
 |s::ps,j+1,h=>by have ih:=aIa (s':=s') (f:=f) (ps:=ps) (j:=j) (by simpa using h);rw[List.set_cons_succ,wP,wP];show M.many (ps.set j s') f+(if s.Frame=f then 1 else 0)+(if(ps.getD j default).Frame=f then 1 else 0)=_;omega
theorem vV{g:DGuest}{gs:List DGuest}{f:Int}:M.many (M.slots (g::gs)) f=M.many g.Pages f+M.many (M.slots gs) f:=by simp only[M.many,M.slots,List.flatMap_cons,List.countP_append]
theorem aHk{x:DGuest}{f:Int}:∀{gs:List DGuest} {i:Nat},i<gs.length->M.many (M.slots (gs.set i x)) f+M.many (gs.getD i default).Pages f=M.many (M.slots gs) f+M.many x.Pages f
 |[],i,h=>by simp at h
 |g::gs,0,_=>by rw[List.set_cons_zero,vV,vV];show M.many x.Pages f+M.many (M.slots gs) f+M.many g.Pages f=_;omega
 |g::gs,i+1,h=>by have ih:=aHk (x:=x) (f:=f) (gs:=gs) (i:=i) (by simpa using h);rw[List.set_cons_succ,vV,vV];show M.many g.Pages f+M.many (M.slots (gs.set i x)) f+M.many (gs.getD i default).Pages f=_;omega
section
variable {h : DHost} {g : Int} {x : DGuest}
def jG(x:DGuest)(p:Nat)(f:Int):DGuest:=⟨x.Live,x.C,x.Pages.set p ⟨f,true,(x.Pages.getD p default).Dirty⟩,x.In,x.Out⟩
theorem aDo(l:Live h g x){p f:Int}:M.inFrame h g p f=⟨over h.Words (f.toNat*8) 8 (M.pageWords h.Words (x.Pages.getD p.toNat default)),h.Guests.set g.toNat (jG x p.toNat f)⟩:=by unfold M.inFrame jG;rw[l.at_]
theorem aWz(l:Live h g x){p:Nat}(hp:p<8){f q:Int}:M.many (M.slots (h.Guests.set g.toNat (jG x p f))) q+(if(x.Pages.getD p default).Frame=q then 1 else 0)=M.many (M.slots h.Guests) q+(if f=q then 1 else 0):=by have:=l.ok.three;have:=l.lo;have:=l.hi;have hpl:=l.pages;have h1:=aHk (x:=jG x p f) (f:=q) (gs:=h.Guests) (i:=g.toNat) (by omega);have h2:=aIa (s':=⟨f,true,(x.Pages.getD p default).Dirty⟩) (f:=q) (ps:=x.Pages) (j:=p) (by omega);rw[l.at_]at h1;have e:(jG x p f).Pages=x.Pages.set p ⟨f,true,(x.Pages.getD p default).Dirty⟩:=rfl;rw[e]at h1;simp only at h2;omega
theorem bEf{ws ys:List Int}{o:Nat}(hw:M.wordsOk ws=true)(hy:M.wordsOk ys=true)(hl:ys.length=8)(ho:o+8<=ws.length):M.wordsOk (over ws o 8 ys)=true:=by rw[aId]at*;intro a ha;rw[nN ho]at ha;rw[vK hl ho];by_cases h1:a<o;{rw[if_pos h1];exact hw a ha};{by_cases h2:a<o+8;{rw[if_neg h1,if_pos h2];exact hy _ (by omega)};{rw[if_neg h1,if_neg h2];exact hw a ha}}
theorem aTd(l:Live h g x){p:Nat}(hp:p<8):M.wordsOk (M.pageWords h.Words (x.Pages.getD p default))=true:=by have hs:=cK l hp;have hlw:=l.ok.len;rw[aId];intro a ha;rw[sF hlw hs]at ha;rw[sP hs ha];by_cases q:(x.Pages.getD p default).Frame<0;{rw[if_pos q];exact M.inR_iff.2 ⟨by omega,by omega⟩};{rw[if_neg q];exact aId.1 l.ok.words _ (by omega)}
theorem aTm(l:Live h g x){p f:Int}(p0:0<=p)(p1:p<=7)(f0:0<=f)(f1:f<20)(hm:M.many (M.slots h.Guests) f=if(x.Pages.getD p.toNat default).Frame=f then 1 else 0):HOk (M.inFrame h g p f):=by have h3:=l.ok.three;have:=l.lo;have:=l.hi;have hpl:=l.pages;have hlw:=l.ok.len;have hs:=cK l (p:=p.toNat) (by omega);rw[aDo l];refine⟨by rw[nN (by omega),hlw],bEf l.ok.words (aTd l (by omega)) (sF hlw hs) (by omega),by rw[lS];exact h3,?_,?_⟩;{rw[List.all_eq_true];intro y hy;rcases List.mem_or_eq_of_mem_set hy with hy|rfl;{exact List.all_eq_true.1 l.ok.all y hy};{unfold M.guestOk jG;simp only;rw[l.live,cTq];simp only[bA,decide_eq_true_eq];refine⟨⟨⟨l.core,by rw[lS];exact hpl,?_⟩,l.inn⟩,l.out⟩;rw[List.all_eq_true];intro s hs;rcases List.mem_or_eq_of_mem_set hs with hs|rfl;{exact List.all_eq_true.1 l.slots s hs};{unfold M.slotOk;simp only;rw[dF (by omega),cFq,dT f0,dT f1];rfl}}};{have ha:=l.ok.alone;simp only[M.alone,List.all_eq_true,Bool.or_eq_true,Bool.not_eq_true',decide_eq_true_eq]at ha ⊢;intro s hsm;(cases hsw:s.Write with|false=>exact .inl rfl|true=>right;have hk:=aWz l (p:=p.toNat) (by omega) (f:=f) (q:=s.Frame);by_cases e:f=s.Frame;{rw[e]at hm;rw[e]at hk;rw[hm]at hk;simp only[if_true]at hk;rw[e];omega};{rw[if_neg e]at hk;have hold:s∈M.slots h.Guests:=(by obtain⟨y,hy,hs2⟩:=List.mem_flatMap.1 hsm;rcases List.mem_or_eq_of_mem_set hy with hy|rfl;{exact List.mem_flatMap.2 ⟨y,hy,hs2⟩};{rcases List.mem_or_eq_of_mem_set (show s∈x.Pages.set p.toNat ⟨f,true,_⟩from hs2)with hs3|rfl;{exact List.mem_flatMap.2 ⟨x,by rw[<-l.at_];exact dS (by omega),hs3⟩};{exact absurd rfl e}});have:=(ha s hold).resolve_left (by rw[hsw];simp);omega})}
theorem aKk(l:Live h g x){p f:Int}{k:Nat}(hk:k<3):(M.inFrame h g p f).Guests.getD k default=if(k:Int)=g then jG x p.toNat f else h.Guests.getD k default:=by have h3:=l.ok.three;have:=l.lo;have:=l.hi;rw[aDo l];show(h.Guests.set g.toNat _).getD k default=_;by_cases e:(k:Int)=g;{rw[if_pos e,show k=g.toNat by omega,cE (by rw[lS];omega),List.getElem_set_self]};{rw[if_neg e,cE (by rw[lS];omega),List.getElem_set_ne (by omega),<-cE]}
theorem aNx (hs:SmallH h) (l:Live h g x) {p f:Int} (p0:0<=p) (p1:p<=7) (f0:0<=f) (f1:f<20) (hok:HOk (M.inFrame h g p f))
 (hm:(x.Pages.getD p.toNat default).Frame=f\/M.many (M.slots h.Guests) f=0) {k:Nat} (hk:k<3):M.hostView (M.inFrame h g p f) (k:Int)=M.hostView h (k:Int):=by
 have h3:=l.ok.three;have:=l.lo;have:=l.hi;have hpl:=l.pages;have hlw:=l.ok.len;have hsl:=cK l (p:=p.toNat) (by omega);have hpw:=sF (ws:=h.Words) hlw hsl;have hgk:=aKk l (p:=p) (f:=f) hk;have hlive:((M.inFrame h g p f).Guests.getD k default).Live=(h.Guests.getD k default).Live:=(by rw[hgk];by_cases e:(k:Int)=g;{have hx:h.Guests.getD k default=x:=(by have:=l.at_;rwa[show g.toNat=k by omega]at this);rw[if_pos e,hx];rfl};{rw[if_neg e]});have e1:M.there (M.inFrame h g p f) (k:Int)=M.there h (k:Int):=(by unfold M.there;rw[lN.2 hok,lN.2 l.ok,iT,hlive]);unfold M.hostView;rw[e1,iT,hgk];cases ht:M.there h (k:Int)with
 |false=>rfl
 |true=>
  have lk:=dU hs ht;rw[iT]at lk;rw[aDo l];have wd:∀{t:DSlot} {b:Nat},b<8->-1<=t.Frame->t.Frame<20->(t.Frame≠f\/(x.Pages.getD p.toNat default).Frame=f)->0<=t.Frame->(over h.Words (f.toNat*8) 8 (M.pageWords h.Words (x.Pages.getD p.toNat default))).getD (t.Frame.toNat*8+b) default=h.Words.getD (t.Frame.toNat*8+b) default:=(by intro t b hb t0 t1 tf tn;rw[vK hpw (by omega)];by_cases q1:t.Frame.toNat*8+b<f.toNat*8;{rw[if_pos q1]};{by_cases q2:t.Frame.toNat*8+b<f.toNat*8+8;{have q3:t.Frame=f:=(by omega);have q4:=tf.resolve_left (λhn=>hn q3);rw[if_neg q1,if_pos q2,sP hsl (by omega),if_neg (by omega),q4];congr 1;omega};{rw[if_neg q1,if_neg q2]}});have old:∀{y:DGuest} {a:Nat},Live h (k:Int) y->a<64->(y.Pages.getD (a/8) default).Frame≠f\/(x.Pages.getD p.toNat default).Frame=f:=(by intro y a ly ha;rcases hm with hm|hm;{exact .inr hm};{left;intro e;have:=aHw ly (p:=a/8) (by omega);rw[e,hm]at this;omega});by_cases e:(k:Int)=g
  · rw[if_pos e]
    have hx:h.Guests.getD k default=x:=(by have:=l.at_;rwa[show g.toNat=k by omega]at this);rw[hx]at lk ⊢
    have:M.mem (over h.Words (f.toNat*8) 8 (M.pageWords h.Words (x.Pages.getD p.toNat default))) (jG x p.toNat f).Pages=M.mem h.Words x.Pages:=by
     refine vL lO lO λa ha=>?_;rw[oU ha,oU ha];have hr:=cK l (p:=a/8) (by omega);unfold M.word;by_cases q:a/8=p.toNat
     · have eg:(jG x p.toNat f).Pages.getD (a/8) default=⟨f,true,(x.Pages.getD p.toNat default).Dirty⟩:=by
        rw[q];show(x.Pages.set p.toNat _).getD p.toNat default=_;rw[cE (by rw[lS];omega),List.getElem_set_self]
       rw[eg,q];simp only;rw[if_neg (by omega),vK hpw (by omega),if_neg (by omega),if_pos (by omega),show f.toNat*8+a%8-f.toNat*8=a%8 by omega,sP hsl (by omega)]
     · have eg:(jG x p.toNat f).Pages.getD (a/8) default=x.Pages.getD (a/8) default:=by
        show(x.Pages.set p.toNat _).getD (a/8) default=_;rw[cE (by rw[lS];omega),List.getElem_set_ne (by omega),<-cE]
       rw[eg];split;{rfl};{exact wd (t:=x.Pages.getD (a/8) default) (by omega) hr.1 hr.2 (old lk ha) (by omega)}
    show(bif true then((⟨x.C,M.mem _ (jG x p.toNat f).Pages,x.In,x.Out⟩:DBare),true)else _)=_;rw[this]
  {rw[if_neg e];have:M.mem (over h.Words (f.toNat*8) 8 (M.pageWords h.Words (x.Pages.getD p.toNat default))) (h.Guests.getD k default).Pages=M.mem h.Words (h.Guests.getD k default).Pages:=(by refine vL lO lO λa ha=>?_;rw[oU ha,oU ha];have hr:=cK lk (p:=a/8) (by omega);unfold M.word;split;{rfl};{exact wd (t:=(h.Guests.getD k default).Pages.getD (a/8) default) (by omega) hr.1 hr.2 (old lk ha) (by omega)});show(bif true then((⟨(h.Guests.getD k default).C,M.mem _ (h.Guests.getD k default).Pages,(h.Guests.getD k default).In,(h.Guests.getD k default).Out⟩:DBare),true)else _)=_;rw[this]}
end
namespace M
def sLets(s:DShade)(user write:Bool):Bool:=s.There&&(s.Write||!write)&&(s.User||!user)
def place(s:DShade)(addr:Int)(user write:Bool):Int×Int:=bif !sLets s user write then(-1,1)else bif decide (s.Frame=-1)then(-1,2)else bif write&&!s.Ready then(-1,3)else(s.Frame*8+addr%8,0)
end M
theorem at8{a f:Int}(h0:0<=a)(h1:a<=63)(f0:0<=f)(f1:f<20):w64 (w64 (f*8)+Int.tmod a 8)=f*8+a%8:=by rw[iM h0,aJ (z:=f*8) (by omega) (by omega),aJ (by omega) (by omega)]
theorem aXl{s:DShade}{a:Int}{user write:Bool}(h0:0<=a)(h1:a<=63)(f0:-1<=s.Frame)(f1:s.Frame<20):mP s a user write=some (M.place s a user write):=by obtain⟨t,w,u,p,f,r⟩:=s;simp only at f0 f1;unfold mP sY M.place M.sLets;by_cases e:f=-1;{simp only[dT e];cases t<;>cases w<;>cases u<;>cases user<;>cases write<;>rfl};{simp only[dF e,oD,at8 h0 h1 (by omega) f1];cases t<;>cases w<;>cases u<;>cases user<;>cases write<;>cases r<;>simp only[bT,bF,cTq,cFq,oB,JO.run,Bool.and_true,Bool.and_false,Bool.true_and,Bool.false_and,Bool.or_true,Bool.or_false,oD,at8 h0 h1 (show 0<=f by omega) f1]}
theorem aQu{xs:List DShade}{s:DShade}{a:Int}{user write:Bool}(h0:0<=a)(h1:a<=63)(hl:xs.length=8)(hg:xs.getD (a/8).toNat default=s)(f0:-1<=s.Frame)(f1:s.Frame<20):dI xs a user write=some (M.place s a user write):=by unfold dI M.place M.sLets;have e8:w64 (Int.tdiv a 8)=a/8:=(by rw[Int.tdiv_eq_ediv_of_nonneg h0,aJ (by omega) (by omega)]);rw[e8,aA ⟨by omega,by omega⟩,hg];obtain⟨t,w,u,p,f,r⟩:=s;simp only at f0 f1;by_cases e:f=-1;{simp only[dT e,dT (p:=f<0) (by omega)];cases t<;>cases w<;>cases u<;>cases user<;>cases write<;>rfl};{simp only[dF e,dF (p:=f<0) (by omega)];cases t<;>cases w<;>cases u<;>cases user<;>cases write<;>cases r<;>simp only[bT,bF,cTq,cFq,oB,JO.run,Bool.and_true,Bool.and_false,Bool.true_and,Bool.false_and,Bool.or_true,Bool.or_false,wY,e8,hg,at8 h0 h1 (show 0<=f by omega) f1]}
theorem aBo{h:DHost}{g:Int}{x:DGuest}(l:Live h g x){p:Nat}(hp:p<8):-1<=(M.shade h.Words x p).Frame/\(M.shade h.Words x p).Frame<20:=by have he:=xF l hp;exact cK l (p:=(M.entry h.Words x p).Page.toNat) (by omega)
def enc(e:DEntry):Int:=8*e.Page+(bif e.There then 1 else 0)+(bif e.Write then 2 else 0)+(bif e.User then 4 else 0)
structure Rdr (m : Int) (r : Dl20Rd) : Prop where
 b:∀x∈r.b,0<=x/\x<=255
 p0:0<=r.p
 p1:r.p<=m
theorem Rdr.up{m n:Int}{r:Dl20Rd}(h:Rdr m r)(hn:m<=n):Rdr n r:=⟨h.b,h.p0,Int.le_trans h.p1 hn⟩
structure Tiny (b : DBare) : Prop where
 regs:b.C.Regs.length<=4
 mem:b.Mem.length<=64
 i:b.In.length<=31
 o:b.Out.length<=31
theorem Tiny.small{b:DBare}(h:Tiny b):SmallB b:=⟨⟨by have:=h.regs;omega⟩,by have:=h.mem;omega,by have:=h.i;omega,by have:=h.o;omega⟩
structure LG (g : DGuest) : Prop where
 small:SmallG g
 pages:g.Live=true->g.Pages.length=8
structure LH (gs : List DGuest) : Prop where
 three:gs.length=3
 all:∀g∈gs,LG g
theorem LH.set{gs:List DGuest}{i:Nat}{x:DGuest}(h:LH gs)(hx:LG x):LH (gs.set i x):=by refine⟨by rw[lS];exact h.three,λg hg=>?_⟩;rcases List.mem_or_eq_of_mem_set hg with hg|rfl;{exact h.all g hg};{exact hx}
theorem LH.get{gs:List DGuest}(h:LH gs){i:Nat}(hi:i<3):LG (gs.getD i default):=h.all _ (dS (by rw[h.three];exact hi))
theorem LH.host{gs:List DGuest}{ws:List Int}(h:LH gs)(hw:ws.length=160):SmallH ⟨ws,gs⟩:=⟨by simp only[hw];omega,by simp only[h.three];omega,λg hg=>(h.all g hg).small⟩
structure FG (gs : List DGuest) : Prop where
 three:gs.length=3
 all:∀g∈gs,SmallG g/\g.Pages.length<=8
theorem FG.get{gs:List DGuest}(h:FG gs){i:Nat}(hi:i<3):SmallG (gs.getD i default)/\(gs.getD i default).Pages.length<=8:=h.all _ (dS (by rw[h.three];exact hi))
theorem FG.set{gs:List DGuest}{i:Nat}{x:DGuest}(h:FG gs)(hx:SmallG x/\x.Pages.length<=8):FG (gs.set i x):=by refine⟨by rw[lS];exact h.three,λg hg=>?_⟩;rcases List.mem_or_eq_of_mem_set hg with hg|rfl;{exact h.all g hg};{exact hx}
theorem FG.host{gs:List DGuest}{ws:List Int}(h:FG gs)(hw:ws.length<=1048576):SmallH ⟨ws,gs⟩:=⟨hw,by simp only[h.three];omega,λg hg=>(h.all g hg).1⟩
theorem aOx{h:DHost}{g p:Int}{x:DGuest}(l:Live h g x)(p0:0<=p)(p1:p<=7)(h2:(M.inFree h g p).2=true):∃f,0<=f/\f<20/\M.many (M.slots h.Guests) f=0/\M.inFree h g p=(M.inFrame h g p f,true):=by unfold M.inFree at h2 ⊢;by_cases e:(M.free (M.slots h.Guests)).length=0;{rw[dT e]at h2;cases h2};{have hf:=aIz (ss:=M.slots h.Guests) (i:=0) (by omega);exact⟨_,hf.1,hf.2,bKc (by omega),by rw[dF e];rfl⟩}
theorem aOj{h:DHost}{g f:Int}{x:DGuest}(l:Live h g x){p:Nat}(hp:p<8)(hm:M.many (M.slots h.Guests) f=0):(x.Pages.getD p default).Frame≠f:=by intro e;have:=aHw l hp;rw[e,hm]at this;omega
theorem bCd{h:DHost}{g p:Int}(hs:SmallH h)(h2:(M.hostFill h g p).2=true):∃x,Live h g x/\0<=p/\p<=7/\
 ((M.hostFill h g p=(h,true)/\(x.Pages.getD p.toNat default).Frame≠-1)\/∃f,0<=f/\f<20/\M.many (M.slots h.Guests) f=0/\M.hostFill h g p=(M.inFrame h g p f,true)):=by
 unfold M.hostFill at h2 ⊢;(cases ht:M.there h g with|false=>rw[ht]at h2;cases h2|true=>have l:=dU hs ht;(cases hp:M.inR 0 7 p with|false=>rw[ht,hp]at h2;cases h2|true=>obtain⟨p0,p1⟩:=M.inR_iff.1 hp;rw[ht,hp,Bool.and_self,cTq]at h2;refine⟨_,l,p0,p1,?_⟩;rw[Bool.and_self,cTq];by_cases e:((h.Guests.getD g.toNat default).Pages.getD p.toNat default).Frame=-1;{rw[dT e,cTq]at h2 ⊢;exact .inr (aOx l p0 p1 h2)};{rw[dF e,cFq];exact .inl ⟨rfl,e⟩}))
theorem bDe{h:DHost}{g p f:Int}{x:DGuest}(l:Live h g x)(p0:0<=p)(p1:p<=7):(M.inFrame h g p f).Guests.getD g.toNat default=jG x p.toNat f/\(jG x p.toNat f).Pages.length=8/\(jG x p.toNat f).Pages.getD p.toNat default=⟨f,true,(x.Pages.getD p.toNat default).Dirty⟩:=by have:=l.lo;have:=l.hi;have hpl:=l.pages;have h1:=aKk l (p:=p) (f:=f) (k:=g.toNat) (by omega);rw[if_pos (by omega)]at h1;refine⟨h1,by unfold jG;rw[lS];exact hpl,?_⟩;show(x.Pages.set p.toNat _).getD p.toNat default=_;rw[cE (by rw[lS];omega),List.getElem_set_self]
theorem bMo{h:DHost}{g:Int}{x:DGuest}(l:Live h g x):M.bareOk ⟨x.C,M.mem h.Words x.Pages,x.In,x.Out⟩=true:=by
 have hk:=l.ok;unfold M.bareOk M.memOk;simp only[bA,decide_eq_true_eq];refine⟨⟨⟨l.core,lO,?_⟩,l.inn⟩,l.out⟩;simp only[M.wordsOk,List.all_eq_true,M.mem,List.mem_map,List.mem_range]
 rintro w ⟨a,ha,rfl⟩
 unfold M.word M.wordOk;rw[M.inR_iff];have hr:=aRx l.slots (i:=a/8) (by rw[l.pages];omega);split;{omega};{exact iQ hk.words (by rw[hk.len];omega)}
namespace M
def vw(ws:List Int)(x:DGuest):DBare:=⟨x.C,mem ws x.Pages,x.In,x.Out⟩
def mach(x:DGuest):DBare:=⟨x.C,[],x.In,x.Out⟩
def withM(h:DHost)(g:Int)(x:DGuest)(b:DBare):DHost:=⟨h.Words,h.Guests.set g.toNat ⟨x.Live,b.C,x.Pages,b.In,b.Out⟩⟩
def busy(c:DCore):Bool:=c.Stopped||((tick c).Waits&&(tick c).On)
def wpc(b:DBare):Int:=walk b.Mem b.C.Root b.C.Pc b.C.User false
def inst(b:DBare):DIns:=ins (b.Mem.getD (wpc b).toNat default)
def adr(b:DBare):Int:=reg b.C ((inst b).N%4)%64
def isSt(b:DBare):Bool:=decide ((inst b).Op=4)
def wad(b:DBare):Int:=walk b.Mem b.C.Root (adr b) b.C.User (isSt b)
def reads(b:DBare):Bool:=!busy b.C&&!decide (wpc b=-1)
def comes(b:DBare):Bool:=reads b&&(decide ((inst b).Op=3)||isSt b)&&!decide (wad b=-1)
def lackS(s:DSlot)(w:Bool):Bool:=decide (s.Frame=-1)||(w&&!s.Write)
def one(b:Bool):Nat:=bif b then 1 else 0
def cnt(ps:List DSlot)(b:DBare):Nat:=one (reads b&&lackS (ps.getD (wpc b/8).toNat default) false)+one (comes b&&lackS (ps.getD (wad b/8).toNat default) (isSt b))
def e0:DExit:=⟨0,0,⟨0,0,0⟩⟩
def aExit(s:DShade)(why:Int):DExit:=bif decide (why=2)then⟨2,s.Page,⟨0,0,0⟩⟩else bif decide (why=3)then⟨3,s.Page,⟨0,0,0⟩⟩else e0
def shadeAt(ws:List Int)(x:DGuest)(a:Int):DShade:=shade ws x (a/8).toNat
def placeAt(ws:List Int)(x:DGuest)(a:Int)(w:Bool):Int×Int:=place (shadeAt ws x a) a x.C.User w
def iExit(ws:List Int)(x:DGuest)(i:DIns):DExit:=
 bif kern i.Op&&!x.C.User then⟨1,0,i⟩
 else bif decide (i.Op=3)||decide (i.Op=4)then aExit (shadeAt ws x (reg x.C (i.N%4)%64)) (placeAt ws x (reg x.C (i.N%4)%64) (decide (i.Op=4))).2
 else e0
def xExit(ws:List Int)(x:DGuest):DExit:=
 bif busy x.C then e0
 else bif !decide ((placeAt ws x x.C.Pc false).2=0)then aExit (shadeAt ws x x.C.Pc) (placeAt ws x x.C.Pc false).2
 else iExit ws x (ins (ws.getD (placeAt ws x x.C.Pc false).1.toNat default))
noncomputable def guestExit (h:DHost)(g:Int):DExit:=bif there h g then xExit h.Words (h.Guests.getD g.toNat default)else e0
def lacks(e:DExit):Bool:=decide (e.Why=2)||decide (e.Why=3)
noncomputable def answered (h:DHost)(g:Int)(e:DExit):DHost×Bool:=bif decide (e.Why=2)then hostFill h g e.Page else hostCopy h g e.Page
noncomputable def ready (g:Int):Nat->DHost->Option DHost
 |0,h=>some h
 |n+1,h=>bif lacks (guestExit h g)then(bif (answered h g (guestExit h g)).2 then ready g n (answered h g (guestExit h g)).1 else none)else some h
def wrote(b:DBare):Bool:=comes b&&isSt b
def dirty(x:DGuest)(p:Nat):DSlot:=⟨(x.Pages.getD p default).Frame,(x.Pages.getD p default).Write,true⟩
def ran(h:DHost)(g:Int)(x:DGuest):DHost:=
 bif wrote (vw h.Words x)then
  ⟨h.Words.set ((x.Pages.getD (wad (vw h.Words x)/8).toNat default).Frame*8+wad (vw h.Words x)%8).toNat (reg x.C (inst (vw h.Words x)).A),h.Guests.set g.toNat ⟨x.Live,(step (vw h.Words x)).C,x.Pages.set (wad (vw h.Words x)/8).toNat (dirty x (wad (vw h.Words x)/8).toNat),(step (vw h.Words x)).In,(step (vw h.Words x)).Out⟩⟩
 else withM h g x (step (vw h.Words x))
noncomputable def hostStep (h:DHost)(g:Int):DHost×Bool:=bif there h g then
 (match ready g 8 h with
 |some h'=>(ran h' g (h'.Guests.getD g.toNat default),true)
 |none=>(h,false))
 else(zeroH,false)
end M
section
variable (c : DCore)
theorem iI:(M.tick c).Pc=c.Pc:=by unfold M.tick;cases decide (c.Timer=0)<;>rfl
theorem aGz:(M.tick c).Root=c.Root:=by unfold M.tick;cases decide (c.Timer=0)<;>rfl
theorem nL:(M.tick c).User=c.User:=by unfold M.tick;cases decide (c.Timer=0)<;>rfl
theorem aRv:(M.tick c).Regs=c.Regs:=by unfold M.tick;cases decide (c.Timer=0)<;>rfl
theorem yQ(k:Int):M.reg (M.tick c) k=M.reg c k:=by unfold M.reg;rw[aRv]
end
theorem aCg{b:DBare}(hb:BOk b):M.insOk (M.inst b)=true:=by have hm:0<=b.Mem.getD (M.wpc b).toNat default/\b.Mem.getD (M.wpc b).toNat default<=4095:=(by by_cases h:M.wpc b=-1;{rw[h];exact zB hb (z:=0) (by omega) (by omega)};{have hw:=aCs _ _ _ _ _ h;exact zB hb hw.1 hw.2});exact aGb hm.1 hm.2
section
variable {h : DHost} {g : Int} {x : DGuest}
theorem hY(l:Live h g x):BOk (M.vw h.Words x):=aYw.1 (bMo l)
theorem bDa(l:Live h g x){a:Int}{w:Bool}(a0:0<=a)(a1:a<=63):
 M.walk (M.mem h.Words x.Pages) x.C.Root a x.C.User w=(bif M.sLets (M.shadeAt h.Words x a) x.C.User w then(M.shadeAt h.Words x a).Page*8+a%8 else-1):=by
 have hb:=hY l;have hr:=aHt l.core;unfold M.walk;rw[show M.memOk (M.mem h.Words x.Pages)=true from hb.mem,M.inR_iff.2 hr,M.inR_iff.2 ⟨a0,a1⟩];simp only[Bool.and_self,cTq];by_cases e:x.C.Root=-1;{rw[dT e,cTq];have es:M.shadeAt h.Words x a=M.shadeFor x ⟨true,true,true,(((a/8).toNat:Nat):Int)⟩:=(by unfold M.shadeAt M.shade M.entry;rw[if_pos e]);rw[es];simp only[M.sLets,M.shadeFor,Bool.true_or,Bool.and_self,cTq];omega};{rw[dF e,cFq];have es:M.shadeAt h.Words x a=M.shadeFor x (dec ((M.mem h.Words x.Pages).getD (x.C.Root*8+a/8).toNat default)):=(by unfold M.shadeAt M.shade M.entry;rw[if_neg e,oU (by omega),show(x.C.Root*8+a/8).toNat=x.C.Root.toNat*8+(a/8).toNat by omega]);rw[es];rfl}
theorem uD(l:Live h g x){a:Int}{w:Bool}(a0:0<=a)(a1:a<=63){t:Int}(ht:M.walk (M.mem h.Words x.Pages) x.C.Root a x.C.User w=t):
 (t=-1/\M.placeAt h.Words x a w=(-1,1))\/
 (0<=t/\t<64/\(M.shadeAt h.Words x a).Page=t/8/\M.placeAt h.Words x a w=bif decide ((x.Pages.getD (t/8).toNat default).Frame=-1)then(-1,2)else bif w&&!(x.Pages.getD (t/8).toNat default).Write then(-1,3)else((x.Pages.getD (t/8).toNat default).Frame*8+t%8,0)):=by
 rw[bDa l a0 a1]at ht;have hp:=xF l (p:=(a/8).toNat) (by omega);have e1:(M.shadeAt h.Words x a).Page=(M.entry h.Words x (a/8).toNat).Page:=rfl;unfold M.placeAt M.place;(cases hl:M.sLets (M.shadeAt h.Words x a) x.C.User w with|false=>rw[hl,cFq]at ht;exact .inl ⟨ht.symm,rfl⟩|true=>rw[hl,cTq]at ht;have e2:(M.shadeAt h.Words x a).Page=t/8:=(by omega);refine .inr ⟨by omega,by omega,e2,?_⟩;have e3:(M.shadeAt h.Words x a).Frame=(x.Pages.getD (t/8).toNat default).Frame:=(by rw[<-e2];rfl);have e4:(M.shadeAt h.Words x a).Ready=(x.Pages.getD (t/8).toNat default).Write:=(by rw[<-e2];rfl);rw[e3,e4,show t%8=a%8 by omega];rfl)
theorem aQh(l:Live h g x){t:Int}(t0:0<=t)(t1:t<64)(hf:(x.Pages.getD (t/8).toNat default).Frame≠-1):
 h.Words.getD ((x.Pages.getD (t/8).toNat default).Frame*8+t%8).toNat default=(M.mem h.Words x.Pages).getD t.toNat default:=by
 have hr:=cK l (p:=(t/8).toNat) (by omega);rw[oU (by omega)];unfold M.word;rw[show t.toNat/8=(t/8).toNat by omega,if_neg (by omega)];congr 1;omega
theorem aUv{op:Int}(h:M.kern op=true):op≠3/\op≠4:=by constructor<;>rintro rfl<;>exact absurd h (by decide)
theorem aOf(b:DBare)(h:M.busy b.C=true):M.reads b=false/\M.comes b=false:=by unfold M.comes M.reads;rw[h];exact⟨rfl,rfl⟩
theorem aEa(l:Live h g x):
 ((M.xExit h.Words x).Why=2/\∃t,0<=t/\t<64/\(M.xExit h.Words x).Page=t/8/\(x.Pages.getD (t/8).toNat default).Frame=-1/\((M.reads (M.vw h.Words x)=true/\t=M.wpc (M.vw h.Words x))\/(M.comes (M.vw h.Words x)=true/\t=M.wad (M.vw h.Words x))))\/
 ((M.xExit h.Words x).Why=3/\∃t,0<=t/\t<64/\(M.xExit h.Words x).Page=t/8/\(x.Pages.getD (t/8).toNat default).Frame≠-1/\(x.Pages.getD (t/8).toNat default).Write=false/\M.comes (M.vw h.Words x)=true/\t=M.wad (M.vw h.Words x)/\M.isSt (M.vw h.Words x)=true)\/
 ((M.xExit h.Words x=M.e0\/(M.xExit h.Words x=⟨1,0,M.inst (M.vw h.Words x)⟩/\M.kern (M.inst (M.vw h.Words x)).Op=true/\x.C.User=false))/\M.cnt x.Pages (M.vw h.Words x)=0):=by
 have hb:=hY l;unfold M.xExit;cases hbz:M.busy x.C with
 |true=>obtain⟨h1,h2⟩:=aOf (M.vw h.Words x) hbz;refine .inr (.inr ⟨.inl rfl,?_⟩);unfold M.cnt;rw[h1,h2];rfl
 |false=>
  rw[cFq];have hrd:M.reads (M.vw h.Words x)=!decide (M.wpc (M.vw h.Words x)=-1):=(by unfold M.reads;rw[show M.busy (M.vw h.Words x).C=false from hbz];rfl);rcases uD l (a:=x.C.Pc) (w:=false) hb.pc.1 hb.pc.2 (t:=M.wpc (M.vw h.Words x)) rfl with⟨ht,hp⟩|⟨t0,t1,hpg,hp⟩;{have h1:M.reads (M.vw h.Words x)=false:=(by rw[hrd,dT (show M.wpc (M.vw h.Words x)=-1 from ht)];rfl);have h2:M.comes (M.vw h.Words x)=false:=(by unfold M.comes;rw[h1];rfl);rw[hp];refine .inr (.inr ⟨.inl rfl,?_⟩);unfold M.cnt;rw[h1,h2];rfl}
  · have h1:M.reads (M.vw h.Words x)=true:=by rw[hrd,dF (show¬M.wpc (M.vw h.Words x)=-1 by have:0<=M.wpc (M.vw h.Words x):=t0;omega)];rfl
    by_cases hf:(x.Pages.getD (M.wpc (M.vw h.Words x)/8).toNat default).Frame=-1;{rw[dT hf]at hp;rw[hp];exact .inl ⟨rfl,M.wpc (M.vw h.Words x),t0,t1,hpg,hf,.inl ⟨h1,rfl⟩⟩}
    · rw[dF hf,cFq,Bool.false_and,cFq]at hp
      have hw:=aQh l t0 t1 hf;rw[hp];simp only[decide_true,bT,cFq];rw[show M.ins (h.Words.getD ((x.Pages.getD (M.wpc (M.vw h.Words x)/8).toNat default).Frame*8+M.wpc (M.vw h.Words x)%8).toNat default)=M.inst (M.vw h.Words x) by rw[hw];rfl];have hl1:M.lackS (x.Pages.getD (M.wpc (M.vw h.Words x)/8).toNat default) false=false:=(by unfold M.lackS;rw[dF hf];rfl);generalize hi:M.inst (M.vw h.Words x)=i;unfold M.iExit;cases hk:M.kern i.Op with
      |true=>obtain⟨n3,n4⟩:=aUv hk;have h2:M.comes (M.vw h.Words x)=false:=(by unfold M.comes M.isSt;rw[hi,dF n3,dF n4];simp);have hc:M.cnt x.Pages (M.vw h.Words x)=0:=(by unfold M.cnt;rw[h2,hl1];simp[M.one]);(cases hu:x.C.User with|false=>exact .inr (.inr ⟨.inr ⟨rfl,rfl,rfl⟩,hc⟩)|true=>simp only[bT,Bool.and_false,cFq];rw[dF n3,dF n4];exact .inr (.inr ⟨.inl rfl,hc⟩))
      |false=>
       rw[Bool.false_and,cFq];by_cases ho:i.Op=3\/i.Op=4;{have eo:(decide (i.Op=3)||decide (i.Op=4))=true:=(by simpa using ho);have ead:M.reg x.C (i.N%4)%64=M.adr (M.vw h.Words x):=(by unfold M.adr;rw[hi];rfl);have est:decide (i.Op=4)=M.isSt (M.vw h.Words x):=(by unfold M.isSt;rw[hi]);have hco:M.comes (M.vw h.Words x)=!decide (M.wad (M.vw h.Words x)=-1):=(by unfold M.comes;rw[h1,<-est,hi,eo];rfl);have har:0<=M.adr (M.vw h.Words x)/\M.adr (M.vw h.Words x)<=63:=(by unfold M.adr;omega);rw[eo,cTq,ead,est];rcases uD l (a:=M.adr (M.vw h.Words x)) (w:=M.isSt (M.vw h.Words x)) har.1 har.2 (t:=M.wad (M.vw h.Words x)) rfl with⟨ht,hp⟩|⟨t0,t1,hpg,hp⟩;{have h2:M.comes (M.vw h.Words x)=false:=(by rw[hco,dT ht];rfl);rw[hp];refine .inr (.inr ⟨.inl rfl,?_⟩);unfold M.cnt;rw[h2,hl1];simp[M.one]};{have h2:M.comes (M.vw h.Words x)=true:=(by rw[hco,dF (by omega)];rfl);by_cases hf2:(x.Pages.getD (M.wad (M.vw h.Words x)/8).toNat default).Frame=-1;{rw[dT hf2,cTq]at hp;rw[hp];exact .inl ⟨rfl,_,t0,t1,hpg,hf2,.inr ⟨h2,rfl⟩⟩};{rw[dF hf2,cFq]at hp;(cases hw2:M.isSt (M.vw h.Words x)&&!(x.Pages.getD (M.wad (M.vw h.Words x)/8).toNat default).Write with|true=>rw[hw2,cTq]at hp;rw[hp];rw[bA,Bool.not_eq_true']at hw2;exact .inr (.inl ⟨rfl,_,t0,t1,hpg,hf2,hw2.2,h2,rfl,hw2.1⟩)|false=>rw[hw2,cFq]at hp;rw[hp];refine .inr (.inr ⟨.inl rfl,?_⟩);have hl2:M.lackS (x.Pages.getD (M.wad (M.vw h.Words x)/8).toNat default) (M.isSt (M.vw h.Words x))=false:=(by unfold M.lackS;rw[dF hf2,hw2];rfl);unfold M.cnt;rw[hl1,hl2];simp[M.one])}}}
       · have eo:(decide (i.Op=3)||decide (i.Op=4))=false:=by
          rw[Bool.or_eq_false_iff,decide_eq_false_iff_not,decide_eq_false_iff_not];exact not_or.1 ho
         have h2:M.comes (M.vw h.Words x)=false:=(by unfold M.comes M.isSt;rw[hi,eo];simp);rw[eo,cFq];refine .inr (.inr ⟨.inl rfl,?_⟩);unfold M.cnt;rw[h2,hl1];simp[M.one]
end
theorem bDr{h:DHost}{g p:Int}(hs:SmallH h)(h2:(M.hostCopy h g p).2=true):∃x f,Live h g x/\0<=p/\p<=7/\0<=f/\f<20/\M.hostCopy h g p=(M.inFrame h g p f,true)/\
 (((x.Pages.getD p.toNat default).Frame=f/\M.many (M.slots h.Guests) f=1)\/M.many (M.slots h.Guests) f=0):=by
 unfold M.hostCopy at h2 ⊢;(cases ht:M.there h g with|false=>rw[ht]at h2;cases h2|true=>have l:=dU hs ht;(cases hp:M.inR 0 7 p with|false=>rw[ht,hp]at h2;cases h2|true=>obtain⟨p0,p1⟩:=M.inR_iff.1 hp;have hsl:=cK l (p:=p.toNat) (by omega);rw[ht,hp,Bool.and_self,cTq]at h2;rw[Bool.and_self,cTq];by_cases e:((h.Guests.getD g.toNat default).Pages.getD p.toNat default).Frame=-1;{rw[dT e]at h2;cases h2};{rw[dF e,cFq]at h2 ⊢;by_cases q:M.many (M.slots h.Guests) ((h.Guests.getD g.toNat default).Pages.getD p.toNat default).Frame=1;{refine⟨_,_,l,p0,p1,by omega,hsl.2,by rw[dT q,cTq],.inl ⟨rfl,q⟩⟩};{rw[dF q,cFq]at h2 ⊢;obtain⟨f,f0,f1,hm,e2⟩:=aOx l p0 p1 h2;exact⟨_,f,l,p0,p1,f0,f1,e2,.inr hm⟩}}))
def one(f:Int)(t:DSlot):Int:=if t.Frame=f then 1 else 0
end Go.Proofs.YtkjabgefacfpfaaGreat
