/- The plain functions: what they answer. -/
import Derived.Test.YtobbmlnagjhofaaZY
import Derived.Test.YtobbmlnagjhofaaWBK1
import Derived.Test.YtobbmlnagjhofaaWEGV1
namespace Go.Proofs.Ytobbmlnagjhofaa
set_option linter.all false
theorem oB.{u,v} {α:Type u} {β:Type v} (a:α) (f:α->Option β):(some a).bind f=f a:=rfl
theorem dF{p:Prop}[Decidable p](h:¬p):decide p=false:=decide_eq_false h
theorem dT{p:Prop}[Decidable p](h:p):decide p=true:=decide_eq_true h
theorem cFq.{u} {α:Sort u} (a b:α):cond false a b=b:=rfl
theorem cTq.{u} {α:Sort u} (a b:α):cond true a b=a:=rfl
theorem bT:(!true)=false:=rfl
theorem bF:(!false)=true:=rfl
theorem bA(a b:Bool):((a&&b)=true)=(a=true/\b=true):=Bool.and_eq_true a b
theorem iT(n:Nat):Int.toNat (n:Int)=n:=rfl
theorem iM{a b:Int}(h:0<=a):a.tmod b=a%b:=Int.tmod_eq_emod_of_nonneg h
theorem lS.{u} {α:Type u} {xs:List α} {i:Nat} {a:α}:(xs.set i a).length=xs.length:=List.length_set
theorem cV{α:Type}[Inhabited α]{xs:List α}{i:Nat}(h:i<xs.length):xs.getD i default=xs[i]:=by simp[List.getD,h]
namespace M
def inR(lo hi n:Int):Bool:=decide (lo<=n)&&decide (n<=hi)
def wordOk(n:Int):Bool:=inR 0 4095 n
def wordsOk(xs:List Int):Bool:=xs.all wordOk
def memOk(xs:List Int):Bool:=decide (xs.length=64)&&wordsOk xs
theorem inR_iff{lo hi n:Int}:inR lo hi n=true↔lo<=n/\n<=hi:=by simp[inR]
end M
theorem bGc{b:Bool}{x:Option Bool}{y:Bool}(h:x=some y):(cond b x (some false))=some (b&&y):=by cases b<;>simp[h]
theorem qV{b y:Bool}:(cond b (some y) (some false))=some (b&&y):=by cases b<;>rfl
theorem aQt(n:Int):mR n=some (M.wordOk n):=by unfold mR;rw[qV];rfl
theorem aDt(n lo hi:Int):eG n lo hi=some (M.inR lo hi n):=by unfold eG;rw[qV];rfl
theorem wC(n:Int):iV n=some (M.wordOk n):=by unfold iV;rw[aDt];rfl
theorem bDi{a b:Int}:decide (a<b+1)=decide (a<=b):=by rw[decide_eq_decide];omega
theorem sR {T:Type} [Inhabited T] {xs:List T} {Pf:T->Option Bool} {p:T->Bool} (hP:∀x,Pf x=some (p x)) (hl:xs.length<=9223372036854775806) (step:Int->Option (LO Int (JO Unit Bool)))
 (hs:∀k,step k=cond (decide (k<((List.length xs:Nat):Int))) (grd ((0:Int)<=k/\k<((List.length xs:Nat):Int)) (Option.bind (Pf (List.getD xs (Int.toNat k) default)) λv=>cond (!v) (some (.ret (.out false))) (some (.next (w64 (k+(1:Int))))))) (some (.ret (.go ())))):
 iter step 0=some (.ret (bif xs.all p then .go ()else .out false)):=by
 have key:∀k:Int,(0<=k/\k<=(xs.length:Int))->iter step k=some (.ret (bif (xs.drop k.toNat).all p then .go ()else .out false)):=by
  refine vN _ (λk=>xs.length-k.toNat) _ ?_
  rintro k ⟨h0,h1⟩
  by_cases hk:k<xs.length
  · have e1:xs.drop k.toNat=xs.getD k.toNat default::xs.drop (k+1).toNat:=by
     rw[cV (by omega),show(k+1).toNat=k.toNat+1 by omega];exact List.drop_eq_getElem_cons (by omega)
    have hst:step k=cond (!p (xs.getD k.toNat default)) (some (.ret (.out false))) (some (.next (k+1))):=(by rw[hs,dT hk,cTq,aD ⟨h0,hk⟩,hP,aT (by omega) (by omega)];rfl);(cases hp:p (xs.getD k.toNat default)with|true=>refine .inl ⟨k+1,by rw[hst,hp];rfl,⟨by omega,by omega⟩,by omega,?_⟩;rw[e1,List.all_cons,hp,Bool.true_and]|false=>refine .inr ⟨λs'=>by rw[hst,hp];simp,?_⟩;rw[hst,hp,e1,List.all_cons,hp];rfl)
  {have hk2:k=xs.length:=(by omega);have hf:decide (k<((List.length xs:Nat):Int))=false:=(by simp;omega);refine .inr ⟨λs'=>by rw[hs,hf];simp,?_⟩;rw[hs,hf,hk2];simp}
 simpa using key 0 ⟨by omega,by omega⟩
theorem xA{xs:List Int}(h:xs.length<=9223372036854775806):gX xs=some (M.wordsOk xs):=by unfold gX;rw[sR aQt h (uJ xs) (λk=>rfl)];simp only[M.wordsOk];cases xs.all M.wordOk<;>rfl
theorem bEa{xs:List Int}(h:xs.length<=9223372036854775806):rO xs=some (M.memOk xs):=by unfold rO;rw[xA h];show cond _ (some _) (some false)=_;rw[qV];simp only[M.memOk];congr 2;rw[decide_eq_decide];omega
theorem bFo{xs:List Int}(h:xs.length<=9223372036854775806):rQ xs=some (M.memOk xs):=by unfold rQ;rw[sR wC h (xE xs) (λk=>rfl)];simp only[M.memOk,M.wordsOk];cases xs.all M.wordOk;{simp[LO.val,JO.run]};{simp only[LO.val,JO.run,oB,wZ,cTq,Bool.and_true];congr 1;rw[decide_eq_decide];omega}
theorem aYo{xs:List Int}(h:M.memOk xs=true):xs.length=64:=by simp only[M.memOk,bA,decide_eq_true_eq]at h;exact h.1
theorem mB{xs:List Int}(h:xs.length<=1048576):cY xs=some xs:=by
 have key:∀s:List Int×Int,(0<=s.2/\s.2<=(xs.length:Int)/\s.1.length=xs.length/\∀i,i<s.2.toNat->s.1[i]? =xs[i]?)->iter (jY xs) s=some (.ret (.go xs)):=by
  refine vN _ (λs=>xs.length-s.2.toNat) _ ?_
  rintro⟨ys,k⟩ ⟨h0,h1,h2,h3⟩
  simp only at h0 h1 h2 h3;by_cases hk:k<xs.length;{refine .inl ⟨(ys.set k.toNat (xs.getD k.toNat default),k+1),?_,⟨by simp only;omega,by simp only;omega,by simpa using h2,?_⟩,by simp only;omega,rfl⟩;{simp only[jY,dT hk,cTq,grd,h2];rw[if_pos ⟨h0,hk⟩,if_pos ⟨h0,hk⟩,aT (by omega) (by omega)]};{intro j hj;simp only at hj ⊢;rw[List.getElem?_set];by_cases e:k.toNat=j;{subst e;rw[if_pos rfl,if_pos (by omega),cV (by omega),List.getElem?_eq_getElem (by omega)]};{rw[if_neg e];exact h3 j (by omega)}}}
  · have hy:ys=xs:=by
     apply List.ext_getElem?;intro j;by_cases hj:j<xs.length;{exact h3 j (by omega)};{rw[List.getElem?_eq_none (by omega),List.getElem?_eq_none (by omega)]}
    have hf:decide (k<(xs.length:Int))=false:=(by simp;omega);refine .inr ⟨?_,?_⟩;{intro s';simp only[jY,hf,cFq];simp};{simp only[jY,hf,cFq,hy]}
 unfold cY;rw[aD ⟨by omega,by omega,by omega⟩,key _ ⟨by simp,by simp,by simp,by simp⟩];rfl
theorem lZ{xs ys:List Int}(h:xs.length<=9223372036854775807):dP xs ys=some (decide (xs=ys)):=by
 unfold dP;by_cases hl:xs.length=ys.length
 · have key:∀k:Int,(0<=k/\k<=(xs.length:Int))->iter (fQ xs ys) k=some (.ret (bif decide (xs.drop k.toNat=ys.drop k.toNat)then .go ()else .out false)):=by
    refine vN _ (λk=>xs.length-k.toNat) _ ?_
    rintro k ⟨h0,h1⟩
    by_cases hk:k<xs.length
    · have e1:xs.drop k.toNat=xs.getD k.toNat default::xs.drop (k+1).toNat:=by
       rw[cV (by omega),show(k+1).toNat=k.toNat+1 by omega];exact List.drop_eq_getElem_cons (by omega)
      have e2:ys.drop k.toNat=ys.getD k.toNat default::ys.drop (k+1).toNat:=(by rw[cV (by omega),show(k+1).toNat=k.toNat+1 by omega];exact List.drop_eq_getElem_cons (by omega));by_cases he:xs.getD k.toNat default=ys.getD k.toNat default;{refine .inl ⟨k+1,?_,⟨by omega,by omega⟩,by omega,?_⟩;{simp only[fQ,dT hk,cTq,grd];rw[if_pos ⟨h0,hk⟩,if_pos ⟨h0,by omega⟩,he,aT (by omega) (by omega)];simp};{rw[e1,e2,he];simp}};{have hf:(!decide (xs.getD k.toNat default=ys.getD k.toNat default))=true:=(by rw[dF he];rfl);refine .inr ⟨?_,?_⟩;{intro s';simp only[fQ,dT hk,cTq,grd];rw[if_pos ⟨h0,hk⟩,if_pos ⟨h0,by omega⟩,hf];simp};{simp only[fQ,dT hk,cTq,grd];rw[if_pos ⟨h0,hk⟩,if_pos ⟨h0,by omega⟩,hf,e1,e2];have:decide (xs.getD k.toNat default::xs.drop (k+1).toNat=ys.getD k.toNat default::ys.drop (k+1).toNat)=false:=dF λe=>he (List.cons.inj e).1;rw[this];rfl}}
    {have hk2:k=xs.length:=(by omega);subst hk2;refine .inr ⟨?_,?_⟩;{intro s';simp[fQ]};{simp[fQ,hl]}}
   rw[key 0 ⟨by omega,by omega⟩];have:decide ((xs.length:Int)=(ys.length:Int))=true:=(by simp[hl]);rw[this];by_cases e:xs=ys;{subst e;simp[LO.val,JO.run,vX]};{simp[e,LO.val,JO.run]}
 {have:decide ((xs.length:Int)=(ys.length:Int))=false:=(by simp;omega);rw[this];have e:xs≠ys:=λe=>hl (by rw[e]);simp[e]}
def fM(k:Int)(n:Nat):List Int:=(List.range n).map λ(i:Nat)=>k+(i:Int)
theorem dB{k:Int}{n:Nat}:(fM k n).length=n:=by simp[fM]
theorem hY{xs:List Int}{k:Int}(h:xs.length<=9007199254740992)(h0:0<=k)(h1:k<=9007199254740992):cW xs k=some (fM k xs.length,k+xs.length):=by
 have key:∀s:List Int×Int×Int,(0<=s.2.2/\s.2.2<=(xs.length:Int)/\s.2.1=k+s.2.2/\s.1.length=xs.length/\∀i,i<s.2.2.toNat->s.1[i]? =some (k+i))->iter fT s=some (.ret (.go (k+xs.length,fM k xs.length))):=by
  refine vN _ (λs=>xs.length-s.2.2.toNat) _ ?_
  rintro⟨ys,q,i⟩ ⟨a0,a1,a2,a3,a4⟩
  simp only at a0 a1 a2 a3 a4;by_cases hi:i<xs.length;{refine .inl ⟨(ys.set i.toNat q,q+1,i+1),?_,⟨by simp only;omega,by simp only;omega,by simp only;omega,by simpa using a3,?_⟩,by simp only;omega,rfl⟩;{simp only[fT,a3,dT hi,cTq,grd];rw[if_pos ⟨a0,hi⟩,aT (by omega) (by omega),aT (by omega) (by omega)]};{intro j hj;simp only at hj ⊢;rw[List.getElem?_set];by_cases e:i.toNat=j;{subst e;rw[if_pos rfl,if_pos (by omega)];congr 1;omega};{rw[if_neg e];exact a4 j (by omega)}}};{have hi2:i=xs.length:=(by omega);have hy:ys=fM k xs.length:=(by apply List.ext_getElem?;intro j;by_cases hj:j<xs.length;{rw[a4 j (by omega)];simp[fM,hj]};{rw[List.getElem?_eq_none (by omega),List.getElem?_eq_none (by rw[dB];omega)]});have hf:decide (i<(ys.length:Int))=false:=(by simp;omega);refine .inr ⟨?_,?_⟩;{intro s';simp only[fT,hf,cFq];simp};{simp only[fT,hf,cFq,a2,hi2,hy];rw[<-hy,a3];simp}}
 unfold cW;rw[key _ ⟨by simp,by simp,by simp,rfl,by simp⟩];rfl
theorem aFo{n:Nat}{k:Int}(h:n<=9007199254740992)(h0:0<=k)(h1:k<=9007199254740992):gB (fM k n) k=some (k+n):=by
 have key:∀s:Int×Int,(0<=s.2/\s.2<=(n:Int)/\s.1=k+s.2)->iter (iN (fM k n)) s=some (.ret (.go (k+n))):=by
  refine vN _ (λs=>n-s.2.toNat) _ ?_
  rintro⟨q,i⟩ ⟨a0,a1,a2⟩
  simp only at a0 a1 a2;by_cases hi:i<n;{refine .inl ⟨(q+1,i+1),?_,⟨by simp only;omega,by simp only;omega,by simp only;omega⟩,by simp only;omega,rfl⟩;have hl:i<((fM k n).length:Int):=(by rw[dB];exact hi);have hg:(fM k n).getD i.toNat default=q:=(by rw[cV (by rw[dB];omega)];simp only[fM,List.getElem_map,List.getElem_range];omega);simp only[iN,dT hl,cTq,grd];rw[if_pos ⟨a0,hl⟩,hg,aT (by omega) (by omega),aT (by omega) (by omega)];simp};{have hf:decide (i<((fM k n).length:Int))=false:=(by simp[dB];omega);refine .inr ⟨?_,?_⟩;{intro s';simp only[iN,hf,cFq];simp};{simp only[iN,hf,cFq,a2];rw[show i=n by omega]}}
 unfold gB;rw[key _ ⟨by simp,by simp,by simp⟩];rfl
theorem oO{xs:List Int}{left:Int}(h:xs.length<=9223372036854775807)(h0:0<=left)(h1:left<=1048576):eW xs left=some (if(xs.length:Int)<=left then left-xs.length else-1):=by unfold eW;rw[aT (by omega) (by omega)];by_cases hl:(xs.length:Int)<=left;{have:decide (left-(xs.length:Int)<0)=false:=(by simp;omega);rw[this,if_pos hl];rfl};{have:decide (left-(xs.length:Int)<0)=true:=(by simp;omega);rw[this,if_neg hl];rfl}
theorem aSb(n:Int):dD n=some (M.inR 0 63 n):=by unfold dD;rw[qV,show(64:Int)=63+1 from rfl,bDi];rfl
theorem aOj(n:Int):mQ n=some (M.inR 0 7 n):=by unfold mQ;rw[qV,show(8:Int)=7+1 from rfl,bDi];rfl
theorem bBz(n:Int):mS n=some (M.inR (-1) 7 n):=by unfold mS;rw[aOj];by_cases h:n=-1;{subst h;rfl};{rw[dF h];show some (M.inR 0 7 n)=_;congr 1;simp only[M.inR];congr 1;rw[decide_eq_decide];omega}
noncomputable instance:DecidableEq DCore:=λa b=>Classical.propDecidable (a=b)
noncomputable instance:DecidableEq DBare:=λa b=>Classical.propDecidable (a=b)
namespace M
def coreOk(c:DCore):Bool:=decide (c.Regs.length=4)&&wordsOk c.Regs&&(inR 0 63 c.Pc&&inR 0 63 c.Vector&&inR 0 63 c.Saved&&inR 0 63 c.Bad)&&inR (-1) 7 c.Root&&inR 0 4 c.Cause&&wordOk c.Timer
def rowOk(xs:List Int):Bool:=decide (xs.length<=30)&&wordsOk xs
def bareOk(b:DBare):Bool:=coreOk b.C&&memOk b.Mem&&rowOk b.In&&rowOk b.Out
end M
theorem aEi{xs:List Int}(h:xs.length<=9223372036854775806):kA xs=some (M.rowOk xs):=by unfold kA;rw[xA h];show cond _ (some _) (some false)=_;rw[qV];simp only[M.rowOk];congr 2;rw[decide_eq_decide];omega
theorem aEe{xs:List Int}(h:xs.length<=9223372036854775806):eH xs 30=some (M.rowOk xs):=by unfold eH;rw[sR wC h (pU xs) (λk=>rfl)];simp only[M.rowOk,M.wordsOk];cases xs.all M.wordOk;{simp[LO.val,JO.run]};{simp only[LO.val,JO.run,oB,pV,cTq,Bool.and_true];congr 1;rw[decide_eq_decide];omega}
theorem aPc{c:DCore}(h:c.Regs.length<=9223372036854775806):mY c=some (M.coreOk c):=by unfold mY;simp only[xA h,aSb,bBz,aQt,oB];have e4:decide (((c.Regs.length:Nat):Int)=4)=decide (c.Regs.length=4):=(by rw[decide_eq_decide];omega);rw[e4];simp only[M.coreOk,M.inR];generalize decide (c.Regs.length=4)=b0;generalize M.wordsOk c.Regs=b1;generalize(decide (0<=c.Pc)&&decide (c.Pc<=63))=b2;generalize(decide (0<=c.Vector)&&decide (c.Vector<=63))=b3;generalize(decide (0<=c.Saved)&&decide (c.Saved<=63))=b4;generalize(decide (0<=c.Bad)&&decide (c.Bad<=63))=b5;generalize(decide (-1<=c.Root)&&decide (c.Root<=7))=b6;generalize decide (0<=c.Cause)=b7;generalize decide (c.Cause<=4)=b8;generalize M.wordOk c.Timer=b9;cases b0<;>cases b2<;>cases b3<;>cases b4<;>cases b7<;>cases b1<;>cases b5<;>cases b6<;>cases b8<;>rfl
theorem aQk{c:DCore}(h:c.Regs.length<=9223372036854775806):kI c=some (M.coreOk c):=by unfold kI;rw[sR wC h (vV c) (λk=>rfl)];simp only[M.coreOk,M.wordsOk];cases c.Regs.all M.wordOk;{simp[LO.val,JO.run]};{simp only[LO.val,JO.run,oB,wF,cTq,Bool.and_true,aDt,wC];have e4:decide (((c.Regs.length:Nat):Int)=4)=decide (c.Regs.length=4):=(by rw[decide_eq_decide];omega);rw[e4];generalize decide (c.Regs.length=4)=b0;generalize M.inR 0 63 c.Pc=b2;generalize M.inR 0 63 c.Vector=b3;generalize M.inR 0 63 c.Saved=b4;generalize M.inR 0 63 c.Bad=b5;generalize M.inR (-1) 7 c.Root=b6;generalize M.inR 0 4 c.Cause=b7;generalize M.wordOk c.Timer=b9;cases b0<;>cases b2<;>cases b3<;>cases b4<;>cases b7<;>cases b5<;>cases b6<;>rfl}
structure SmallC (c : DCore) : Prop where
 regs:c.Regs.length<=1048576
structure SmallB (b : DBare) : Prop where
 c:SmallC b.C
 mem:b.Mem.length<=1048576
 i:b.In.length<=1048576
 o:b.Out.length<=1048576
theorem bCh{b:DBare}(h:SmallB b):nC b=some (M.bareOk b):=by have:=h.c.regs;have:=h.mem;have:=h.i;have:=h.o;unfold nC;simp only[aPc (show b.C.Regs.length<=9223372036854775806 by omega),bEa (show b.Mem.length<=9223372036854775806 by omega),aEi (show b.In.length<=9223372036854775806 by omega),aEi (show b.Out.length<=9223372036854775806 by omega),oB,M.bareOk];cases M.coreOk b.C<;>cases M.memOk b.Mem<;>cases M.rowOk b.In<;>rfl
theorem bCy{b:DBare}(h:SmallB b):qE b=some (M.bareOk b):=by have:=h.c.regs;have:=h.mem;have:=h.i;have:=h.o;unfold qE;simp only[aQk (show b.C.Regs.length<=9223372036854775806 by omega),bFo (show b.Mem.length<=9223372036854775806 by omega),aEe (show b.In.length<=9223372036854775806 by omega),aEe (show b.Out.length<=9223372036854775806 by omega),oB,M.bareOk];cases M.coreOk b.C<;>cases M.memOk b.Mem<;>cases M.rowOk b.In<;>rfl
theorem aMn{c:DCore}(h:SmallC c):mX c=some c:=by unfold mX;rw[mB h.regs];rfl
theorem aMo{a b:DCore}(h:a.Regs.length<=9223372036854775807):mO a b=some (decide (a=b)):=by unfold mO;rw[lZ h];obtain⟨r,p1,p2,p3,p4,p5,p6,p7,p8,p9,p10,p11,p12⟩:=a;obtain⟨r',q1,q2,q3,q4,q5,q6,q7,q8,q9,q10,q11,q12⟩:=b;simp only[oB,DCore.mk.injEq];by_cases h0:r=r'<;>by_cases h1:p1=q1<;>by_cases h2:p2=q2<;>by_cases h3:p3=q3<;>by_cases h4:p4=q4<;>by_cases h6:p6=q6<;>by_cases h7:p7=q7<;>by_cases h8:p8=q8<;>simp[*];cases p5<;>cases q5<;>cases p9<;>cases q9<;>cases p10<;>cases q10<;>cases p11<;>cases q11<;>cases p12<;>cases q12<;>rfl
theorem aLv{c:DCore}{left:Int}(h:c.Regs.length<=9223372036854775807)(h0:0<=left)(h1:left<=1048576):nF c left=some (if(c.Regs.length:Int)<=left then left-c.Regs.length else-1):=by unfold nF;rw[oO h h0 h1];simp only[oB];split;{have:decide (left-(c.Regs.length:Int)<0)=false:=(by simp;omega);rw[this];rfl};{rfl}
theorem aWg{v:Int}(h:v<0):decide (v<0)=true:=dT h
theorem aHs{T:Type}[Inhabited T]{pre suf:List T}{x:T}:(pre++x::suf).getD pre.length default=x:=by simp[List.getD]
theorem aBr {T:Type} [Inhabited T] {xs ys:List T} {step:List T×Int->Option (LO (List T×Int) (JO (List T) (List T)))} (hl:ys.length=xs.length)
 (hs:∀(k:Nat) (zs:List T),k<xs.length->zs.length=xs.length->step (zs,(k:Int))=some (.next (zs.set k (xs.getD k default),(k:Int)+1)))
 (he:∀zs:List T,zs.length=xs.length->step (zs,(xs.length:Int))=some (.ret (.go zs))):iter step (ys,0)=some (.ret (.go xs)):=by
 have key:∀(n k:Nat) (zs:List T),k+n=xs.length->zs.length=xs.length->(∀i,i<k->zs[i]? =xs[i]?)->iter step (zs,(k:Int))=some (.ret (.go xs)):=by
  intro n;induction n with
  |zero=>intro k zs hk hz h;have e:zs=xs:=(by apply List.ext_getElem?;intro i;by_cases hi:i<k;{exact h i hi};{rw[List.getElem?_eq_none (by omega),List.getElem?_eq_none (by omega)]});have hk:k=xs.length:=(by omega);rw[dL,hk,he zs hz,e]
  |succ n ih=>
   intro k zs hk hz h;rw[dL,hs k zs (by omega) hz]
   have:=ih (k+1) (zs.set k (xs.getD k default)) (by omega) (by simpa using hz) (λi hi=>by
    rw[List.getElem?_set];by_cases e:k=i;{subst e;rw[if_pos rfl,if_pos (by omega),cV (by omega),List.getElem?_eq_getElem (by omega)]}
    · rw[if_neg e];exact h i (by omega))
   simpa using this
 simpa using key xs.length 0 ys (by omega) hl (by simp)
def dG{T:Type}(m:T->Int->T×Int):List T->Int->List T×Int
 |[],k=>([],k)
 |x::xs,k=>((m x k).1::(dG m xs (m x k).2).1,(dG m xs (m x k).2).2)
theorem tL{T:Type}{m:T->Int->T×Int}:∀{xs:List T} {k:Int},(dG m xs k).1.length=xs.length
 |[],_=>rfl
 |x::xs,k=>by simp[dG,tL]
theorem aGa{T:Type}{m:T->Int->T×Int}{C:Int}:∀{xs:List T} {k:Int},(∀x∈xs,∀k,k<=(m x k).2/\(m x k).2<=k+C)->k<=(dG m xs k).2/\(dG m xs k).2<=k+xs.length*C
 |[],k,_=>by simp[dG]
 |x::xs,k,h=>by have h1:=h x (by simp) k;have h2:=aGa (xs:=xs) (k:=(m x k).2) λy hy=>h y (by simp[hy]);simp only[dG,List.length_cons];have:((xs.length+1:Nat):Int)*C=(xs.length:Int)*C+C:=(by rw[Int.natCast_add,Int.add_mul];simp);omega
theorem aMc {T:Type} [Inhabited T] {m:T->Int->T×Int} {C B:Int} {step:List T×Int×Int->Option (LO (List T×Int×Int) (JO (Int×List T) (List T×Int)))} {xs:List T} {k:Int}
 (hm:∀x∈xs,∀k,k<=(m x k).2/\(m x k).2<=k+C) (hk:0<=k) (hB:k+xs.length*C<=B) (hC:0<=C)
 (hs:∀(zs:List T) (i:Nat) (q:Int),zs.length=xs.length->i<zs.length->zs.getD i default∈xs->0<=q->q<=B-C->step (zs,q,(i:Int))=some (.next (zs.set i (m (zs.getD i default) q).1,(m (zs.getD i default) q).2,(i:Int)+1)))
 (he:∀(zs:List T) (q:Int),zs.length=xs.length->step (zs,q,(zs.length:Int))=some (.ret (.go (q,zs)))):iter step (xs,k,0)=some (.ret (.go ((dG m xs k).2,(dG m xs k).1))):=by
 have key:∀(suf pre:List T) (q:Int),(pre++suf).length=xs.length->(∀x∈suf,x∈xs)->0<=q->q+suf.length*C<=B->iter step (pre++suf,q,(pre.length:Int))=some (.ret (.go ((dG m suf q).2,pre++(dG m suf q).1))):=by
  intro suf;induction suf with
  |nil=>intro pre q hl _ _ _;rw[List.append_nil]at hl ⊢;rw[dL,he pre q hl];simp[dG]
  |cons x suf ih=>intro pre q hl hx hq hb;have e1:(pre++x::suf).getD pre.length default=x:=aHs;have hb1:((suf.length+1:Nat):Int)*C=(suf.length:Int)*C+C:=(by rw[Int.natCast_add,Int.add_mul];simp);have hnn:0<=(suf.length:Int)*C:=Int.mul_nonneg (by omega) hC;simp only[List.length_cons]at hb;have h1:=hm x (hx x (by simp)) q;rw[dL,hs (pre++x::suf) pre.length q hl (by simp) (by rw[e1];exact hx x (by simp)) hq (by omega)];rw[e1];have e2:(pre++x::suf).set pre.length (m x q).1=(pre++[(m x q).1])++suf:=(by simp);have:=ih (pre++[(m x q).1]) (m x q).2 (by simpa using hl) (λy hy=>hx y (by simp[hy])) (by omega) (by omega);simp only[List.length_append,List.length_cons,List.length_nil,Nat.zero_add,Int.natCast_add]at this;simp only[e2];rw[show((1:Nat):Int)=1 from rfl]at this;rw[this];simp[dG]
 simpa using key xs [] k rfl (λ_ h=>h) hk hB
theorem aLw {T:Type} [Inhabited T] {m:T->Int->T×Int} {C B:Int} {step:List T->Int×Int->Option (LO (Int×Int) (JO Int Int))} {xs:List T} {k:Int}
 (hm:∀x∈xs,∀k,k<=(m x k).2/\(m x k).2<=k+C) (hk:0<=k) (hB:k+xs.length*C<=B) (hC:0<=C)
 (hs:∀(zs:List T) (i:Nat) (x:T) (q:Int),zs.length=xs.length->i<zs.length->x∈xs->0<=q->q<=B-C->zs.getD i default=(m x q).1->step zs (q,(i:Int))=some (.next ((m x q).2,(i:Int)+1)))
 (he:∀(zs:List T) (q:Int),zs.length=xs.length->step zs (q,(zs.length:Int))=some (.ret (.go q))):iter (step (dG m xs k).1) (k,0)=some (.ret (.go (dG m xs k).2)):=by
 have key:∀(suf pre:List T) (q:Int),(pre++suf).length=xs.length->(∀x∈suf,x∈xs)->0<=q->q+suf.length*C<=B->iter (step (pre++(dG m suf q).1)) (q,(pre.length:Int))=some (.ret (.go (dG m suf q).2)):=by
  intro suf;induction suf with
  |nil=>intro pre q hl _ _ _;simp only[dG];rw[List.append_nil]at hl ⊢;rw[dL,he pre q hl]
  |cons x suf ih=>intro pre q hl hx hq hb;have hb1:((suf.length+1:Nat):Int)*C=(suf.length:Int)*C+C:=(by rw[Int.natCast_add,Int.add_mul];simp);have hnn:0<=(suf.length:Int)*C:=Int.mul_nonneg (by omega) hC;simp only[List.length_cons]at hb;have h1:=hm x (hx x (by simp)) q;simp only[dG];have e1:(pre++(m x q).1::(dG m suf (m x q).2).1).getD pre.length default=(m x q).1:=aHs;rw[dL,hs _ pre.length x q (by simpa[tL]using hl) (by simp) (hx x (by simp)) hq (by omega) e1];have:=ih (pre++[(m x q).1]) (m x q).2 (by simpa using hl) (λy hy=>hx y (by simp[hy])) (by omega) (by omega);simp only[List.length_append,List.length_cons,List.length_nil,Nat.zero_add,Int.natCast_add,List.append_assoc,List.cons_append,List.nil_append]at this;rw[show((1:Nat):Int)=1 from rfl]at this;exact this
 simpa using key xs [] k rfl (λ_ h=>h) hk hB
theorem aTo {T:Type} [Inhabited T] {xs ys:List T} {step:Int->Option (LO Int (JO Unit Bool))} {d:T->T->Bool} (hd:∀x∈xs,∀y,d x y=true↔x=y) (hl:xs.length=ys.length)
 (hs:∀i:Nat,i<xs.length->xs.getD i default∈xs->step (i:Int)=some (bif d (xs.getD i default) (ys.getD i default)then .next ((i:Int)+1)else .ret (.out false)))
 (he:step (xs.length:Int)=some (.ret (.go ()))):∃b:Bool,iter step 0=some (.ret (bif b then .go ()else .out false))/\(b=true↔xs=ys):=by
 have key:∀(n k:Nat),k+n=xs.length->∃b:Bool,iter step (k:Int)=some (.ret (bif b then .go ()else .out false))/\(b=true↔xs.drop k=ys.drop k):=by
  intro n;induction n with
  |zero=>intro k hk;have hk:k=xs.length:=(by omega);refine⟨true,by rw[dL,hk,he];rfl,?_⟩;subst hk;simp[hl]
  |succ n ih=>
   intro k hk;have hm:xs.getD k default∈xs:=(by rw[cV (by omega)];exact List.getElem_mem _);have e1:xs.drop k=xs.getD k default::xs.drop (k+1):=(by rw[cV (by omega)];exact List.drop_eq_getElem_cons (by omega));have e2:ys.drop k=ys.getD k default::ys.drop (k+1):=(by rw[cV (by omega)];exact List.drop_eq_getElem_cons (by omega));rw[dL,hs k (by omega) hm,e1,e2];cases hdd:d (xs.getD k default) (ys.getD k default)with
   |true=>obtain⟨b,h1,h2⟩:=ih (k+1) (by omega);refine⟨b,by simpa using h1,?_⟩;rw[h2,(hd _ hm _).1 hdd];simp
   |false=>
    refine⟨false,by simp,?_⟩;have:xs.getD k default≠ys.getD k default:=λe=>by rw[(hd _ hm _).2 e]at hdd;cases hdd
    simp only[List.cons.injEq,Bool.false_eq_true,false_iff];exact λh=>this h.1
 obtain⟨b,h1,h2⟩:=key xs.length 0 (by omega);exact⟨b,by simpa using h1,by simpa using h2⟩
section
variable {T σ S R : Type} [Inhabited T]
theorem qS {xs:List T} {step:S->Option (LO S R)} (enc:σ->Int->S) (p:T->Bool) (g:σ->T->σ) (fin:σ->R) (r:R) (Inv:Nat->σ->Prop)
 (hs:∀(i:Nat) x s,(i:Int)<(xs.length:Int)->x∈xs->xs.getD i default=x->Inv i s->step (enc s i)=some (bif p x then .next (enc (g s x) ((i:Int)+1))else .ret r)/\(p x=true->Inv (i+1) (g s x)))
 (he:∀s,Inv xs.length s->step (enc s xs.length)=some (.ret (fin s))) (s:σ) (hi:Inv 0 s):
 iter step (enc s 0)=some (.ret (bif xs.all p then fin (xs.foldl g s)else r))/\(xs.all p=true->Inv xs.length (xs.foldl g s)):=by
 have key:∀(suf pre:List T) (s:σ),xs=pre++suf->Inv pre.length s->iter step (enc s pre.length)=some (.ret (bif suf.all p then fin (suf.foldl g s)else r))/\(suf.all p=true->Inv xs.length (suf.foldl g s)):=by
  intro suf;induction suf with
  |nil=>intro pre s hx hi;rw[List.append_nil]at hx;subst hx;rw[dL,he s hi];exact⟨rfl,λ_=>hi⟩
  |cons x suf ih=>intro pre s hx hi;obtain⟨h1,h2⟩:=hs pre.length x s (by rw[hx];simp;omega) (by rw[hx];simp) (by rw[hx];simp[List.getD]) hi;rw[dL,h1];(cases hp:p x with|false=>simp[List.all_cons,hp]|true=>obtain⟨g1,g2⟩:=ih (pre++[x]) (g s x) (by rw[hx];simp) (by simpa using h2 hp);simp only[List.length_append,List.length_cons,List.length_nil,Nat.zero_add,Int.natCast_add]at g1;simp only[cTq,List.all_cons,hp,Bool.true_and,List.foldl_cons];exact⟨g1,g2⟩)
 simpa using key xs [] s rfl hi
theorem rE {xs:List T} {step:S->Option (LO S R)} (enc:σ->Int->S) (g:σ->T->σ) (fin:σ->R) (Inv:Nat->σ->Prop)
 (hs:∀(i:Nat) x s,(i:Int)<(xs.length:Int)->x∈xs->xs.getD i default=x->Inv i s->step (enc s i)=some (.next (enc (g s x) ((i:Int)+1)))/\Inv (i+1) (g s x))
 (he:∀s,Inv xs.length s->step (enc s xs.length)=some (.ret (fin s))) (s:σ) (hi:Inv 0 s):
 iter step (enc s 0)=some (.ret (fin (xs.foldl g s)))/\Inv xs.length (xs.foldl g s):=by
 have h:=qS (p:=λ_=>true) enc g fin (fin s) Inv (λi x s h1 h2 h3 h4=>⟨(hs i x s h1 h2 h3 h4).1,λ_=>(hs i x s h1 h2 h3 h4).2⟩) he s hi;have e:xs.all (λ_=>true)=true:=(by simp);rw[e]at h;exact⟨h.1,h.2 rfl⟩
theorem aJa {n:Nat} {step:S->Option (LO S R)} (enc:σ->Int->S) (g:σ->Nat->σ) (fin:σ->R) (Inv:Nat->σ->Prop)
 (hs:∀(i:Nat) s,i<n->Inv i s->step (enc s i)=some (.next (enc (g s i) ((i:Int)+1)))/\Inv (i+1) (g s i))
 (he:∀s,Inv n s->step (enc s n)=some (.ret (fin s))) (s:σ) (hi:Inv 0 s):
 iter step (enc s 0)=some (.ret (fin ((List.range n).foldl g s)))/\Inv n ((List.range n).foldl g s):=by
 have h:=rE (xs:=List.range n) enc g fin Inv (λi x s h1 h2 h3 h4=>by have hi:i<n:=(by simpa using h1);have:x=i:=(by rw[<-h3];simp[List.getD,hi]);subst this;exact hs x s hi h4) (by simpa using he) s hi;simpa using h
theorem aXx {n:Nat} {step:S->Option (LO S R)} (enc:Int->S) (p:Nat->Bool) (a r:R)
 (hs:∀(i:Nat),i<n->step (enc i)=some (bif p i then .next (enc ((i:Int)+1))else .ret r))
 (he:step (enc n)=some (.ret a)):
 iter step (enc 0)=some (.ret (bif (List.range n).all p then a else r)):=by
 have h:=qS (xs:=List.range n) (σ:=Unit) (λ_ k=>enc k) p (λ_ _=>()) (λ_=>a) r (λ_ _=>True) (λi x s h1 h2 h3 h4=>by have hi:i<n:=(by simpa using h1);have:x=i:=(by rw[<-h3];simp[List.getD,hi]);subst this;exact⟨hs x hi,λ_=>trivial⟩) (λs _=>by simpa using he) () trivial;exact h.1
theorem fU {n:Nat} {step:S->Option (LO S R)} (st:Nat->S) (ok:Nat->Bool) (a r:R)
 (hs:∀(i:Nat),i<n->(∀j,j<i->ok j=true)->step (st i)=some (bif ok i then .next (st (i+1))else .ret r))
 (he:(∀j,j<n->ok j=true)->step (st n)=some (.ret a)):
 iter step (st 0)=some (.ret (bif (List.range n).all ok then a else r)):=by
 have key:∀m i,i+m=n->(∀j,j<i->ok j=true)->iter step (st i)=some (.ret (bif (List.range n).all ok then a else r)):=by
  intro m;induction m with
  |zero=>intro i hi ho;have:i=n:=(by omega);subst this;have e:(List.range i).all ok=true:=(by simp only[List.all_eq_true,List.mem_range];exact ho);rw[dL,he ho,e];rfl
  |succ m ih=>intro i hi ho;rw[dL,hs i (by omega) ho];(cases e:ok i with|true=>refine ih (i+1) (by omega) ?_;intro j hj;by_cases h:j=i;{rw[h,e]};{exact ho j (by omega)}|false=>have e2:(List.range n).all ok=false:=(by rw[List.all_eq_false];exact⟨i,by rw[List.mem_range];omega,by rw[e];simp⟩);rw[e2];rfl)
 exact key n 0 (by omega) λj hj=>by omega
end
theorem pL{α β σ:Type}{f:α->List β}{g:σ->β->σ}:∀{xs:List α} {s:σ},xs.foldl (λs x=>(f x).foldl g s) s=(xs.flatMap f).foldl g s
 |[],_=>rfl
 |x::xs,s=>by simp only[List.foldl_cons,List.flatMap_cons,List.foldl_append];exact pL
noncomputable instance:DecidableEq DSlot:=λa b=>Classical.propDecidable (a=b)
noncomputable instance:DecidableEq DGuest:=λa b=>Classical.propDecidable (a=b)
noncomputable instance:DecidableEq DHost:=λa b=>Classical.propDecidable (a=b)
structure SmallG (g : DGuest) : Prop where
 c:SmallC g.C
 pages:g.Pages.length<=1048576
 i:g.In.length<=1048576
 o:g.Out.length<=1048576
structure SmallH (h : DHost) : Prop where
 words:h.Words.length<=1048576
 guests:h.Guests.length<=1048576
 all:∀g∈h.Guests,SmallG g
theorem mH{T:Type}[Inhabited T]{xs:List T}{k:Nat}(h:k<xs.length):xs.getD k default∈xs:=by rw[cV h];exact List.getElem_mem _
namespace M
def noCore:DCore:=⟨[],0,0,0,0,false,0,0,0,false,false,false,false⟩
def noGuest:DGuest:=⟨false,noCore,[],[],[]⟩
def slotOk(s:DSlot):Bool:=bif decide (s.Frame=-1)then !s.Write&&!s.Dirty else decide (0<=s.Frame)&&decide (s.Frame<20)
noncomputable def guestOk (g:DGuest):Bool:=bif g.Live then coreOk g.C&&(decide (g.Pages.length=8)&&g.Pages.all slotOk)&&rowOk g.In&&rowOk g.Out else decide (g=noGuest)
def slots(gs:List DGuest):List DSlot:=gs.flatMap (·.Pages)
def many(ss:List DSlot)(f:Int):Nat:=ss.countP λs=>decide (s.Frame=f)
def alone(ss:List DSlot):Bool:=ss.all λs=>!s.Write||decide (many ss s.Frame<=1)
def bump(xs:List Int)(s:DSlot):List Int:=bif decide (s.Frame=-1)then xs else xs.set s.Frame.toNat (xs.getD s.Frame.toNat default+1)
def takers(ss:List DSlot):List Int:=ss.foldl bump (List.replicate 20 0)
noncomputable def hostOk (h:DHost):Bool:=decide (h.Words.length=160)&&wordsOk h.Words&&(decide (h.Guests.length=3)&&h.Guests.all guestOk)&&alone (slots h.Guests)
end M
theorem bCx(s:DSlot):qA s=some (M.slotOk s):=by unfold qA M.slotOk;by_cases h:s.Frame=-1;{rw[dT h];cases s.Write<;>rfl};{rw[dF h];simp only[cFq];exact qV}
theorem aZz{xs:List DSlot}(h:xs.length<=9223372036854775806):oW xs=some (decide (xs.length=8)&&xs.all M.slotOk):=by unfold oW;by_cases hl:xs.length=8;{have:decide (((xs.length:Nat):Int)=8)=true:=(by simp;omega);rw[this,bT,cFq,sR bCx h (uK xs) (λk=>rfl),dT hl];cases xs.all M.slotOk<;>rfl};{have:decide (((xs.length:Nat):Int)=8)=false:=(by simp;omega);rw[this,dF hl];rfl}
theorem dbe{a b:Bool}(h:a=true↔b=true):a=b:=Bool.eq_iff_iff.2 h
theorem aWu(c:DCore):nQ c=some (decide (c=M.noCore)):=by obtain⟨a1,a2,a3,a4,a5,a6,a7,a8,a9,a10,a11,a12,a13⟩:=c;unfold nQ;simp only[];by_cases h2:a2=0;{by_cases h3:a3=0;{by_cases h4:a4=0;{by_cases h5:a5=0;{by_cases h1:a1=[];{by_cases h8:a8=0;{by_cases h7:a7=0;{by_cases h9:a9=0;{subst h1 h2 h3 h4 h5 h7 h8 h9;cases a6<;>cases a10<;>cases a11<;>cases a12<;>cases a13<;>simp[M.noCore]};{rw[dF (p:=DCore.mk _ _ _ _ _ _ _ _ _ _ _ _ _=M.noCore) (by simp[M.noCore,h9])];simp only[dF h9];cases a6<;>cases a10<;>cases a11<;>cases a12<;>simp}};{rw[dF (p:=DCore.mk _ _ _ _ _ _ _ _ _ _ _ _ _=M.noCore) (by simp[M.noCore,h7])];simp only[dF h7];cases a6<;>cases a10<;>cases a11<;>cases a12<;>simp}};{rw[dF (p:=DCore.mk _ _ _ _ _ _ _ _ _ _ _ _ _=M.noCore) (by simp[M.noCore,h8])];simp only[dF h8];cases a6<;>cases a10<;>cases a11<;>cases a12<;>simp}};{rw[dF (p:=DCore.mk _ _ _ _ _ _ _ _ _ _ _ _ _=M.noCore) (by simp[M.noCore,h1])];have:decide (((a1.length:Nat):Int)=0)=false:=(by simp[h1]);simp only[this];cases a6<;>cases a10<;>cases a11<;>cases a12<;>simp}};{rw[dF (p:=DCore.mk _ _ _ _ _ _ _ _ _ _ _ _ _=M.noCore) (by simp[M.noCore,h5])];simp only[dF h5];cases a6<;>cases a10<;>cases a11<;>cases a12<;>simp}};{rw[dF (p:=DCore.mk _ _ _ _ _ _ _ _ _ _ _ _ _=M.noCore) (by simp[M.noCore,h4])];simp only[dF h4];cases a6<;>cases a10<;>cases a11<;>cases a12<;>simp}};{rw[dF (p:=DCore.mk _ _ _ _ _ _ _ _ _ _ _ _ _=M.noCore) (by simp[M.noCore,h3])];simp only[dF h3];cases a6<;>cases a10<;>cases a11<;>cases a12<;>simp}};{rw[dF (p:=DCore.mk _ _ _ _ _ _ _ _ _ _ _ _ _=M.noCore) (by simp[M.noCore,h2])];simp only[dF h2];cases a6<;>cases a10<;>cases a11<;>cases a12<;>simp}
theorem aNs{g:DGuest}(hl:g.Live=false):lN g=some (decide (g=M.noGuest)):=by unfold lN;rw[aWu,oB];obtain⟨l,c,p,i,o⟩:=g;simp only at hl;subst hl;simp only[M.noGuest,DGuest.mk.injEq,true_and];by_cases h1:c=M.noCore<;>by_cases h2:p=[]<;>by_cases h3:i=[]<;>by_cases h4:o=[]<;>simp[h1,h2,h3,h4]
theorem bFy{g:DGuest}(hl:g.Live=false):mW g=some (decide (g=M.noGuest)):=by
 unfold mW;obtain⟨l,⟨a1,a2,a3,a4,a5,a6,a7,a8,a9,a10,a11,a12,a13⟩,p,i,o⟩:=g;simp only at hl;subst hl;simp only[bGc rfl,qV];congr 1;apply dbe;simp only[bA,decide_eq_true_eq,Bool.not_eq_true',M.noGuest,M.noCore,DGuest.mk.injEq,DCore.mk.injEq,true_and,Int.natCast_eq_zero,List.length_eq_zero_iff];constructor
 · rintro⟨h1,h2,h3,h4,h5,h6,h7,h8,h9,h10,h11,h12,h13,h14,h15,h16⟩;exact⟨⟨h1,h2,h3,h4,h5,h6,h7,h8,h9,h10,h11,h12,h13⟩,h14,h15,h16⟩
 · rintro⟨⟨h1,h2,h3,h4,h5,h6,h7,h8,h9,h10,h11,h12,h13⟩,h14,h15,h16⟩;exact⟨h1,h2,h3,h4,h5,h6,h7,h8,h9,h10,h11,h12,h13,h14,h15,h16⟩
theorem bAl{g:DGuest}(h:SmallG g):lX g=some (M.guestOk g):=by have:=h.c.regs;have:=h.pages;have:=h.i;have:=h.o;unfold lX M.guestOk;(cases hl:g.Live with|false=>simp only[bF,cTq,aNs hl,oB,cFq]|true=>simp only[bT,cFq,cTq];rw[aPc (by omega),aZz (by omega),aEi (by omega),aEi (by omega)];simp only[oB];cases M.coreOk g.C<;>cases(decide (g.Pages.length=8)&&g.Pages.all M.slotOk)<;>cases M.rowOk g.In<;>rfl)
theorem aVs{gs:List DGuest}(hl:gs.length<=1048576)(h:∀g∈gs,SmallG g):nS gs=some (decide (gs.length=3)&&gs.all M.guestOk):=by
 unfold nS;by_cases hl:gs.length=3
 · have:decide (((gs.length:Nat):Int)=3)=true:=by simp;omega
   rw[this,bT,cFq,dT hl,Bool.true_and]
   have key:=(qS (xs:=gs) (σ:=Unit) (step:=kR gs) (λ_ k=>k) M.guestOk (λ_ _=>()) (λ_=>JO.go ()) (.out false) (λ_ _=>True) (λi x s h1 h2 h3 h4=>by
    refine⟨?_,λ_=>trivial⟩;simp only[kR,dT h1,cTq];rw[aD ⟨by omega,h1⟩,iT,h3];show Option.bind (lX x) _=_;rw[bAl (h x h2),oB,aT (by omega) (by omega)];cases M.guestOk x<;>rfl) (λs _=>by
    simp only[kR];rw[dF (by omega),cFq]) () trivial).1
   rw[key];cases gs.all M.guestOk<;>rfl
 {have:decide (((gs.length:Nat):Int)=3)=false:=(by simp;omega);rw[this,dF hl];rfl}
theorem bDt{xs:List Int}{i j:Nat}{v:Int}(hi:i<xs.length):(xs.set i v).getD j default=if i=j then v else xs.getD j default:=by by_cases h:i=j;{subst h;simp[List.getD,hi]};{simp[List.getD,List.getElem?_set,h]}
theorem aQn{xs:List Int}{s:DSlot}:(M.bump xs s).length=xs.length:=by unfold M.bump;cases decide (s.Frame=-1)<;>simp
theorem kW{s:DSlot}(h:M.slotOk s=true):-1<=s.Frame/\s.Frame<20:=by unfold M.slotOk at h;by_cases e:s.Frame=-1;{omega};{rw[dF e,cFq,bA,decide_eq_true_eq,decide_eq_true_eq]at h;omega}
theorem aPp{xs:List Int}{s:DSlot}(hl:xs.length=20)(h:M.slotOk s=true){f:Nat}(hf:f<20):(M.bump xs s).getD f default=xs.getD f default+(if s.Frame=(f:Int)then 1 else 0):=by have hr:=kW h;unfold M.bump;by_cases e:s.Frame=-1;{rw[dT e,cTq,if_neg (by omega)];omega};{rw[dF e,cFq,bDt (by omega)];by_cases e2:s.Frame=(f:Int);{rw[if_pos (by omega),if_pos e2];congr 2;omega};{rw[if_neg (by omega),if_neg e2];omega}}
theorem tP{s:DSlot}{ss:List DSlot}{f:Int}:M.many (s::ss) f=M.many ss f+(if s.Frame=f then 1 else 0):=by simp only[M.many,List.countP_cons,decide_eq_true_eq]
theorem aCo{f:Nat}(hf:f<20):∀{ss:List DSlot} {xs:List Int},xs.length=20->ss.all M.slotOk=true->(ss.foldl M.bump xs).length=20/\(ss.foldl M.bump xs).getD f default=xs.getD f default+(M.many ss f:Int)
 |[],xs,hl,_=>⟨hl,by simp[M.many]⟩
 |s::ss,xs,hl,h=>by rw[List.all_cons,bA]at h;obtain⟨h1,h2⟩:=aCo hf (ss:=ss) (xs:=M.bump xs s) (by rw[aQn,hl]) h.2;refine⟨h1,?_⟩;rw[List.foldl_cons,h2,aPp hl h.1 hf,tP];split<;>simp<;>omega
theorem uP{ss:List DSlot}(h:ss.all M.slotOk=true):(M.takers ss).length=20:=(aCo (f:=0) (by omega) (xs:=List.replicate 20 0) (by simp) h).1
theorem aAa{ss:List DSlot}(h:ss.all M.slotOk=true){f:Nat}(hf:f<20):(M.takers ss).getD f default=(M.many ss f:Int):=by unfold M.takers;rw[(aCo (f:=f) hf (xs:=List.replicate 20 0) (by simp) h).2];have:(List.replicate 20 (0:Int)).getD f default=0:=(by rw[cV (by rw[List.length_replicate];omega),List.getElem_replicate]);omega
theorem lD{g:DGuest}(h:M.guestOk g=true):g.Pages.all M.slotOk=true/\g.Pages.length<=8:=by unfold M.guestOk at h;(cases hl:g.Live with|true=>rw[hl,cTq]at h;simp only[bA,decide_eq_true_eq]at h;exact⟨h.1.1.2.2,by omega⟩|false=>rw[hl,cFq,decide_eq_true_eq]at h;rw[h];exact⟨rfl,by simp[M.noGuest]⟩)
theorem wS{gs:List DGuest}(h:gs.all M.guestOk=true):(M.slots gs).all M.slotOk=true:=by simp only[M.slots,List.all_flatMap,List.all_eq_true]at h ⊢;exact λg hg=>List.all_eq_true.1 (lD (h g hg)).1
structure Tl (B : Nat) (xs : List Int) : Prop where
 len:xs.length=20
 low:∀i,i<20->0<=xs.getD i default
 top:∀i,i<20->xs.getD i default<=(B:Int)
theorem Tl.mono{B C:Nat}{xs:List Int}(h:Tl B xs)(hB:B<=C):Tl C xs:=⟨h.len,h.low,λi hi=>by have:=h.top i hi;omega⟩
theorem Tl.bump{B:Nat}{xs:List Int}{s:DSlot}(h:Tl B xs)(hs:M.slotOk s=true):Tl (B+1) (M.bump xs s):=by refine⟨by rw[aQn,h.len],λi hi=>?_,λi hi=>?_⟩;all_goals rw[aPp h.len hs hi];have:=h.low i hi;have:=h.top i hi;split<;>omega
theorem Tl.zero:Tl 0 (List.replicate 20 0):=by refine⟨by simp,λi hi=>?_,λi hi=>?_⟩;all_goals rw[cV (by rw[List.length_replicate];omega),List.getElem_replicate];omega
theorem aVb{xs:List DSlot}(h:xs.length<=1048576):pJ xs=some xs:=by
 have key:=aBr (xs:=xs) (ys:=List.replicate (Int.toNat (xs.length:Int)) (DSlot.mk 0 false false)) (step:=lM xs) (by simp) (λk zs hk hz=>by
  have h1:(k:Int)<(xs.length:Int):=(by omega);simp only[lM,dT h1,cTq,hz];rw[aD ⟨by omega,h1⟩,iT];show Option.bind (some (xs.getD k default)) _=_;rw[oB,aD ⟨by omega,h1⟩,aT (by omega) (by omega)]) (λzs hz=>by
  simp only[lM];rw[dF (by omega),cFq])
 unfold pJ;rw[aD ⟨by omega,by omega,by omega⟩,key];rfl
theorem aWh{g:DGuest}(h:SmallG g):lR g=some g:=by unfold lR;rw[aMn h.c,aVb h.pages,mB h.i,mB h.o];rfl
theorem aSc{xs:List DGuest}(h:xs.length<=1048576)(hs:∀g∈xs,SmallG g):oC xs=some xs:=by
 have key:=aBr (xs:=xs) (ys:=List.replicate (Int.toNat (xs.length:Int)) (DGuest.mk false (DCore.mk ([]:List Int) (0:Int) (0:Int) (0:Int) (0:Int) false (0:Int) (0:Int) (0:Int) false false false false) ([]:List DSlot) ([]:List Int) ([]:List Int))) (step:=kU xs) (by simp) (λk zs hk hz=>by
  have h1:(k:Int)<(xs.length:Int):=(by omega);simp only[kU,dT h1,cTq,hz];rw[aD ⟨by omega,h1⟩,iT];show Option.bind (lR (xs.getD k default)) _=_;rw[aWh (hs _ (mH hk)),oB,aD ⟨by omega,h1⟩,aT (by omega) (by omega)]) (λzs hz=>by
  simp only[kU];rw[dF (by omega),cFq])
 unfold oC;rw[aD ⟨by omega,by omega,by omega⟩,key];rfl
theorem aCt{h:DHost}(hs:SmallH h):cQ h=some h:=by unfold cQ;rw[mB hs.words,aSc hs.guests hs.all];rfl
theorem aYc{a b:DSlot}:nD a b=some (decide (a=b)):=by obtain⟨f,w,d⟩:=a;obtain⟨f',w',d'⟩:=b;unfold nD;simp only[DSlot.mk.injEq];by_cases h:f=f'<;>cases w<;>cases w'<;>cases d<;>cases d'<;>simp[h]
theorem aXo{xs ys:List DSlot}(h:xs.length<=9223372036854775806):oX xs ys=some (decide (xs=ys)):=by
 unfold oX;by_cases hl:xs.length=ys.length
 · obtain⟨b,h1,h2⟩:=aTo (xs:=xs) (ys:=ys) (step:=lJ xs ys) (d:=λx y=>decide (x=y)) (λx _ y=>decide_eq_true_iff) hl (λi hi _=>by
    have e1:(i:Int)<(xs.length:Int):=(by omega);simp only[lJ,dT e1,cTq];rw[aD ⟨by omega,e1⟩,aD ⟨by omega,by omega⟩,iT];show Option.bind (nD (xs.getD i default) (ys.getD i default)) _=_;rw[aYc,oB,aT (by omega) (by omega)];cases decide (xs.getD i default=ys.getD i default)<;>rfl) (by
    simp only[lJ];rw[dF (by omega),cFq])
   rw[h1,dT (by omega)];have e:decide (xs=ys)=b:=(by rw[Bool.eq_iff_iff,decide_eq_true_iff];exact h2.symm);rw[e];cases b<;>rfl
 {rw[dF (by omega),dF (λe=>hl (by rw[e]))];rfl}
theorem aVd{a b:DGuest}(h:SmallG a):lW a b=some (decide (a=b)):=by have:=h.c.regs;have:=h.pages;have:=h.i;have:=h.o;unfold lW;rw[aMo (by omega),aXo (by omega),lZ (by omega),lZ (by omega)];obtain⟨l,c,p,i,o⟩:=a;obtain⟨l',c',p',i',o'⟩:=b;simp only[oB,DGuest.mk.injEq];by_cases h1:c=c'<;>by_cases h2:p=p'<;>by_cases h3:i=i'<;>by_cases h4:o=o'<;>cases l<;>cases l'<;>simp[*]
theorem aRs{xs ys:List DGuest}(h:xs.length<=1048576)(hs:∀g∈xs,SmallG g):nV xs ys=some (decide (xs=ys)):=by
 unfold nV;by_cases hl:xs.length=ys.length
 · obtain⟨b,h1,h2⟩:=aTo (xs:=xs) (ys:=ys) (step:=kZ xs ys) (d:=λx y=>decide (x=y)) (λx _ y=>decide_eq_true_iff) hl (λi hi hm=>by
    have e1:(i:Int)<(xs.length:Int):=(by omega);simp only[kZ,dT e1,cTq];rw[aD ⟨by omega,e1⟩,aD ⟨by omega,by omega⟩,iT];show Option.bind (lW (xs.getD i default) (ys.getD i default)) _=_;rw[aVd (hs _ hm),oB,aT (by omega) (by omega)];cases decide (xs.getD i default=ys.getD i default)<;>rfl) (by
    simp only[kZ];rw[dF (by omega),cFq])
   rw[h1,dT (by omega)];have e:decide (xs=ys)=b:=(by rw[Bool.eq_iff_iff,decide_eq_true_iff];exact h2.symm);rw[e];cases b<;>rfl
 {rw[dF (by omega),dF (λe=>hl (by rw[e]))];rfl}
theorem rJ{a b:DHost}(h:SmallH a):cS a b=some (decide (a=b)):=by have:=h.words;unfold cS;rw[lZ (by omega),aRs h.guests h.all];obtain⟨w,g⟩:=a;obtain⟨w',g'⟩:=b;simp only[oB,DHost.mk.injEq];by_cases h1:w=w'<;>by_cases h2:g=g'<;>simp[*]
theorem aWo{xs:List DSlot}{left:Int}(h:xs.length<=9223372036854775807)(h0:0<=left)(h1:left<=1048576):oV xs left=some (if(xs.length:Int)<=left then left-xs.length else-1):=by unfold oV;rw[aT (by omega) (by omega)];by_cases hl:(xs.length:Int)<=left;{rw[dF (by omega),if_pos hl];rfl};{rw[dT (by omega),if_neg hl];rfl}
structure FitG (g : DGuest) : Prop where
 c:g.C.Regs.length<=9223372036854775807
 pages:g.Pages.length<=9223372036854775807
 i:g.In.length<=9223372036854775807
 o:g.Out.length<=9223372036854775807
theorem aXc{g:DGuest}{left:Int}(h:FitG g)(h0:0<=left)(h1:left<=1048576):∃v,lT g left=some v/\(v<0\/(0<=v/\v<=left/\SmallG g)):=by have:=h.c;have:=h.pages;have:=h.i;have:=h.o;unfold lT;rw[aLv (by omega) h0 h1];simp only[oB];split;{rename_i e1;rw[dF (by omega),cFq,aWo (by omega) (by omega) (by omega)];simp only[oB];split;{rename_i e2;rw[dF (by omega),cFq,oO (by omega) (by omega) (by omega)];simp only[oB];split;{rename_i e3;rw[dF (by omega),cFq,oO (by omega) (by omega) (by omega)];simp only[oB];split;{rename_i e4;rw[dF (by omega),cFq];exact⟨_,rfl,.inr ⟨by omega,by omega,⟨by omega⟩,by omega,by omega,by omega⟩⟩};{exact⟨-1,rfl,.inl (by omega)⟩}};{exact⟨-1,rfl,.inl (by omega)⟩}};{exact⟨-1,rfl,.inl (by omega)⟩}};{exact⟨-1,rfl,.inl (by omega)⟩}
theorem aRw{xs:List DGuest}{left:Int}(hl:xs.length<=9223372036854775807)(h:∀g∈xs,FitG g)(h0:0<=left)(h1:left<=1048576):∃v,oD xs left=some v/\(v<0\/(0<=v/\v<=left/\xs.length<=1048576/\∀g∈xs,SmallG g)):=by
 unfold oD;rw[aT (by omega) (by omega)];by_cases e:left-(xs.length:Int)<0;{rw[dT e];exact⟨-1,rfl,.inl (by omega)⟩}
 · rw[dF e,cFq]
   have key:∀(suf pre:List DGuest) (q:Int),xs=pre++suf->0<=q->q<=left->∃j:JO Int Int,iter (iI xs) (q,(pre.length:Int))=some (.ret j)/\(j= .out (-1)\/∃v,j= .go v/\0<=v/\v<=q/\∀g∈suf,SmallG g):=by
    intro suf;induction suf with
    |nil=>intro pre q hx hq _;rw[List.append_nil]at hx;refine⟨.go q,?_,.inr ⟨q,rfl,hq,Int.le_refl _,by simp⟩⟩;rw[dL];simp only[iI];rw[dF (by rw[hx];omega),cFq]
    |cons x suf ih=>intro pre q hx hq hq1;have e1:((pre.length:Nat):Int)<(xs.length:Int):=(by rw[hx];simp;omega);have e2:xs.getD pre.length default=x:=(by rw[hx];exact aHs);obtain⟨v,g1,g2⟩:=aXc (h x (by rw[hx];simp)) hq (by omega);have st:iI xs (q,(pre.length:Int))=cond (decide (v<0)) (some (.ret (.out (-1)))) (some (.next (v,(pre.length:Int)+1))):=(by simp only[iI,dT e1,cTq];rw[aD ⟨by omega,e1⟩,iT,e2];show Option.bind (lT x q) _=_;rw[g1,oB,aT (by omega) (by omega)]);rw[dL,st];rcases g2 with g2|⟨g2,g3,g4⟩;{rw[dT g2];exact⟨_,rfl,.inl rfl⟩};{rw[dF (by omega),cFq];obtain⟨j,k1,k2⟩:=ih (pre++[x]) v (by rw[hx];simp) g2 (by omega);simp only[List.length_append,List.length_cons,List.length_nil,Nat.zero_add,Int.natCast_add]at k1;refine⟨j,k1,k2.imp id λ⟨u,u1,u2,u3,u4⟩=>⟨u,u1,u2,by omega,λg hg=>?_⟩⟩;rcases List.mem_cons.1 hg with rfl|hg;{exact g4};{exact u4 g hg}}
   obtain⟨j,k1,k2⟩:=key xs [] (left-xs.length) rfl (by omega) (by omega);rw[show((([]:List DGuest).length:Nat):Int)=0 from rfl]at k1;rw[k1];rcases k2 with rfl|⟨v,rfl,k3,k4,k5⟩;{exact⟨-1,rfl,.inl (by omega)⟩};{exact⟨v,rfl,.inr ⟨k3,by omega,by omega,k5⟩⟩}
structure FitH (h : DHost) : Prop where
 words:h.Words.length<=9223372036854775807
 guests:h.Guests.length<=9223372036854775807
 all:∀g∈h.Guests,FitG g
theorem aBt{h:DHost}{left:Int}(hf:FitH h)(h0:0<=left)(h1:left<=1048576):∃v,iY h left=some v/\(v<0\/(0<=v/\v<=left/\SmallH h)):=by unfold iY;rw[oO hf.words h0 h1];simp only[oB];split;{rename_i e1;rw[dF (by omega),cFq];obtain⟨v,g1,g2⟩:=aRw hf.guests hf.all (left:=left-h.Words.length) (by omega) (by omega);rw[g1,oB];rcases g2 with g2|⟨g2,g3,g4,g5⟩;{rw[dT g2];exact⟨-1,rfl,.inl (by omega)⟩};{rw[dF (by omega),cFq];exact⟨v,rfl,.inr ⟨g2,by omega,by omega,g4,g5⟩⟩}};{exact⟨-1,rfl,.inl (by omega)⟩}
theorem bEj{xs:List Int}{s:DSlot}{B:Nat}(hs:M.slotOk s=true)(ht:Tl B xs)(hB:B<=1000000000){Y:Type}:(cond (!decide (s.Frame=(-1:Int))) (grd ((0:Int)<=s.Frame/\s.Frame<((xs.length:Nat):Int)) (grd ((0:Int)<=s.Frame/\s.Frame<((xs.length:Nat):Int)) (some (JO.go (List.set xs (Int.toNat s.Frame) (w64 ((List.getD xs (Int.toNat s.Frame) default)+(1:Int)))))))) (some (JO.go xs)):Option (JO (List Int) Y))=some (.go (M.bump xs s)):=by have hr:=kW hs;have hl:=ht.len;unfold M.bump;by_cases e:s.Frame=-1;{rw[dT e];rfl};{rw[dF e];have h1:=ht.low s.Frame.toNat (by omega);have h2:=ht.top s.Frame.toNat (by omega);rw[bF,cTq,cFq,aD ⟨by omega,by omega⟩,aD ⟨by omega,by omega⟩,aT (by omega) (by omega)]}
theorem aRk{gs:List DGuest}(hl:gs.length<=1048576)(h:gs.all M.guestOk=true):iF gs=some (M.takers (M.slots gs)):=by
 have hin:∀(k:Nat) (g:DGuest) (xs:List Int) (h1:(k:Int)<(gs.length:Int)) (h2:g∈gs) (h3:gs.getD k default=g) (h4:Tl (8*k) xs),
  iter (fS gs (xs,(k:Int))) (xs,0)=some (.ret (.go (g.Pages.foldl M.bump xs)))/\Tl (8*k+g.Pages.length) (g.Pages.foldl M.bump xs):=by
  intro k g xs h1 h2 h3 h4;obtain⟨g1,g2⟩:=lD (List.all_eq_true.1 h g h2)
  exact rE (xs:=g.Pages) (step:=fS gs (xs,(k:Int))) (λs j=>(s,j)) M.bump (λs=> .go s) (λj s=>Tl (8*k+j) s) (λj x s a1 a2 a3 a4=>by
   refine⟨?_,a4.bump (List.all_eq_true.1 g1 x a2)⟩;simp only[fS,iT,h3,dT a1,cTq];rw[aD ⟨by omega,a1⟩,a3,bEj (List.all_eq_true.1 g1 x a2) a4 (by omega),oB];simp only[JO.run,rD];rw[aT (by omega) (by omega)]) (λs _=>by
   simp only[fS,iT,h3];rw[dF (by omega),cFq]) xs h4
 have key:=(rE (xs:=gs) (step:=iP gs) (λs j=>(s,j)) (λs g=>g.Pages.foldl M.bump s) (λs=> .go s) (λk s=>Tl (8*k) s) (λk g s a1 a2 a3 a4=>by
  obtain⟨b1,b2⟩:=hin k g s a1 a2 a3 a4;refine⟨?_,b2.mono (by have:=(lD (List.all_eq_true.1 h g a2)).2;omega)⟩;simp only[iP,dT a1,cTq];rw[aD ⟨by omega,a1⟩,b1];simp only[oB,LO.val,JO.run,rA];rw[aT (by omega) (by omega)]) (λs _=>by
  simp only[iP];rw[dF (by omega),cFq]) (List.replicate 20 0) (Tl.zero.mono (by omega))).1
 unfold iF;rw[show Int.toNat (20:Int)=20 from rfl,key];simp only[oB,LO.val,JO.run,qT];rw[pL];rfl
theorem bEq{gs:List DGuest}(hl:gs.length<=1048576)(h:gs.all M.guestOk=true)(hwr:True):hM gs=some (M.alone (M.slots gs)):=by
 unfold hM;rw[aRk hl h,oB];have hs:=wS h
 have hin:∀(k:Nat) (g:DGuest) (h1:(k:Int)<(gs.length:Int)) (h2:g∈gs) (h3:gs.getD k default=g),
  iter (eM gs (M.takers (M.slots gs)) (k:Int)) 0=some (.ret (bif g.Pages.all (λs=>!s.Write||decide (M.many (M.slots gs) s.Frame<=1))then .go ()else .out (.ret (.out false)))):=by
  intro k g h1 h2 h3;obtain⟨g1,g2⟩:=lD (List.all_eq_true.1 h g h2)
  exact(qS (xs:=g.Pages) (σ:=Unit) (step:=eM gs (M.takers (M.slots gs)) (k:Int)) (λ_ j=>j) _ (λ_ _=>()) (λ_=>JO.go ()) _ (λ_ _=>True) (λj x s a1 a2 a3 _=>by
   refine⟨?_,λ_=>trivial⟩;have hx:=List.all_eq_true.1 g1 x a2;have hr:=kW hx;simp only[eM,iT,h3,dT a1,cTq,a3];rw[aD ⟨by omega,a1⟩];cases hw:x.Write with
   |false=>simp only[cFq,oB,JO.run,jQ,bF,Bool.true_or,cTq];rw[aT (by omega) (by omega)]
   |true=>
    have hf:x.Frame≠-1:=λe=>by unfold M.slotOk at hx;rw[dT e,hw]at hx;simp at hx
    have hlt:=uP hs;simp only[cTq];rw[aD ⟨by omega,by omega⟩,aAa hs (by omega),show((x.Frame.toNat:Nat):Int)=x.Frame by omega];by_cases e:M.many (M.slots gs) x.Frame<=1;{rw[dF (by omega),dT e];simp only[cFq,oB,JO.run,jQ,bT,Bool.false_or,cTq];rw[aT (by omega) (by omega)]}
    · rw[dT (by omega),dF e];rfl) (λs _=>by
   simp only[eM,iT,h3];rw[dF (by omega),cFq]) () trivial).1
 have key:=(qS (xs:=gs) (σ:=Unit) (step:=fV gs (M.takers (M.slots gs))) (λ_ j=>j) (λg=>g.Pages.all (λs=>!s.Write||decide (M.many (M.slots gs) s.Frame<=1))) (λ_ _=>()) (λ_=>JO.go ()) (.out false) (λ_ _=>True) (λk g s a1 a2 a3 _=>by
  refine⟨?_,λ_=>trivial⟩;simp only[fV,dT a1,cTq];rw[aD ⟨by omega,a1⟩,hin k g a1 a2 a3];cases g.Pages.all (λs=>!s.Write||decide (M.many (M.slots gs) s.Frame<=1))with
  |false=>rfl
  |true=>simp only[cTq,oB,LO.val,JO.run,nY];rw[aT (by omega) (by omega)]) (λs _=>by
  simp only[fV];rw[dF (by omega),cFq]) () trivial).1
 rw[key]
 have e:M.alone (M.slots gs)=gs.all (λg=>g.Pages.all (λs=>!s.Write||decide (M.many (M.slots gs) s.Frame<=1))):=by
  simp only[M.alone]
  conv=>lhs;arg 1;unfold M.slots
  rw[List.all_flatMap]
 rw[e];cases gs.all (λg=>g.Pages.all (λs=>!s.Write||decide (M.many (M.slots gs) s.Frame<=1)))<;>rfl
theorem bAp{h:DHost}(hs:SmallH h):pZ h=some (M.hostOk h):=by have:=hs.words;unfold pZ M.hostOk;by_cases hl:h.Words.length=160;{rw[show decide (((h.Words.length:Nat):Int)=160)=true by simp;omega,cTq,xA (by omega),dT hl,oB];(cases M.wordsOk h.Words with|false=>rfl|true=>rw[cTq,aVs hs.guests hs.all,oB];(cases hg:(decide (h.Guests.length=3)&&h.Guests.all M.guestOk)with|false=>rfl|true=>rw[bA]at hg;rw[cTq,bEq hs.guests hg.2 trivial];rfl))};{rw[show decide (((h.Words.length:Nat):Int)=160)=false by simp;omega,dF hl];rfl}
theorem bBx{xs:List Int}{n:Int}(h:xs.length<=9223372036854775806):eH xs n=some (decide ((xs.length:Int)<=n)&&M.wordsOk xs):=by unfold eH;rw[sR wC h (pU xs) (λk=>rfl)];simp only[M.wordsOk];cases xs.all M.wordOk;{simp[LO.val,JO.run]};{simp only[LO.val,JO.run,oB,pV,cTq,Bool.and_true]}
namespace M
def bumpW(ws:List Bool)(s:DSlot):List Bool:=bif decide (s.Frame=-1)then ws else ws.set s.Frame.toNat (ws.getD s.Frame.toNat default||s.Write)
def bump2(p:List Int×List Bool)(s:DSlot):List Int×List Bool:=(bump p.1 s,bumpW p.2 s)
end M
theorem bBy{xs:List Bool}{i j:Nat}{v:Bool}(hi:i<xs.length):(xs.set i v).getD j default=if i=j then v else xs.getD j default:=by by_cases h:i=j;{subst h;simp[List.getD,hi]};{simp[List.getD,List.getElem?_set,h]}
theorem aMm{xs:List Bool}{s:DSlot}:(M.bumpW xs s).length=xs.length:=by unfold M.bumpW;cases decide (s.Frame=-1)<;>simp
theorem aYb{xs:List Bool}{s:DSlot}(hl:xs.length=20)(h:M.slotOk s=true){f:Nat}(hf:f<20):(M.bumpW xs s).getD f default=(xs.getD f default||(decide (s.Frame=(f:Int))&&s.Write)):=by have hr:=kW h;unfold M.bumpW;by_cases e:s.Frame=-1;{rw[dT e,cTq,dF (by omega)];simp};{rw[dF e,cFq,bBy (by omega)];by_cases e2:s.Frame=(f:Int);{rw[if_pos (by omega),dT e2,Bool.true_and];congr 2;omega};{rw[if_neg (by omega),dF e2];simp}}
theorem aMi:∀{ss:List DSlot} {p:List Int×List Bool},(ss.foldl M.bump2 p).1=ss.foldl M.bump p.1
 |[],_=>rfl
 |s::ss,p=>by rw[List.foldl_cons,aMi];rfl
theorem aMa{f:Nat}(hf:f<20):∀{ss:List DSlot} {p:List Int×List Bool},p.2.length=20->ss.all M.slotOk=true->(ss.foldl M.bump2 p).2.length=20/\(ss.foldl M.bump2 p).2.getD f default=(p.2.getD f default||ss.any λs=>decide (s.Frame=(f:Int))&&s.Write)
 |[],p,hl,_=>⟨hl,by simp⟩
 |s::ss,p,hl,h=>by rw[List.all_cons,bA]at h;obtain⟨h1,h2⟩:=aMa hf (ss:=ss) (p:=M.bump2 p s) (by simpa[M.bump2,aMm]using hl) h.2;refine⟨h1,?_⟩;rw[List.foldl_cons,h2,List.any_cons];simp only[M.bump2];rw[aYb hl h.1 hf,Bool.or_assoc]
structure Tw (B : Nat) (p : List Int × List Bool) : Prop where
 tl:Tl B p.1
 len:p.2.length=20
theorem Tw.bump{B:Nat}{p:List Int×List Bool}{s:DSlot}(h:Tw B p)(hs:M.slotOk s=true):Tw (B+1) (M.bump2 p s):=⟨h.tl.bump hs,by simp[M.bump2,aMm,h.len]⟩
theorem aTe{h:DHost}{k:Nat}{g:DGuest}{p:List Int×List Bool}{B:Nat}(hl:g.Pages.length<=8)(h3:h.Guests.getD k default=g)(ht:Tw B p)(hB:B<=1000000):
 iter (jG h (p.1,p.2,(k:Int))) (p.1,p.2,0)=some (.ret (bif g.Pages.all M.slotOk then .go ((g.Pages.foldl M.bump2 p).1,(g.Pages.foldl M.bump2 p).2)else .out (.ret (.out false))))/\(g.Pages.all M.slotOk=true->Tw (B+g.Pages.length) (g.Pages.foldl M.bump2 p)):=by
 exact qS (xs:=g.Pages) (step:=jG h (p.1,p.2,(k:Int))) (λs j=>(s.1,s.2,j)) M.slotOk M.bump2 (λs=> .go (s.1,s.2)) (.out (.ret (.out false))) (λj s=>Tw (B+j) s) (λj x s a1 a2 a3 a4=>by
  refine⟨?_,λhx=>a4.bump hx⟩;simp only[jG,iT,h3,dT a1,cTq,a3];rw[aD ⟨by omega,a1⟩,aDt,oB];have hgo:M.slotOk x=true->pW h (p.1,p.2,(k:Int)) (s.1,s.2,(j:Int)) ()=some (.go ((M.bump2 s x).2,(M.bump2 s x).1)):=λhx=>by have hr:=kW hx;have hl1:=a4.tl.len;have hl2:=a4.len;simp only[pW,iT,h3,a3,M.bump2,M.bump,M.bumpW];by_cases e:x.Frame=-1;{rw[dF (p:=(0:Int)<=x.Frame) (by omega),dT e];rfl};{have q1:=a4.tl.low x.Frame.toNat (by omega);have q2:=a4.tl.top x.Frame.toNat (by omega);rw[dT (p:=(0:Int)<=x.Frame) (by omega),dF e];simp only[cTq,cFq];rw[aD ⟨by omega,by omega⟩,aD ⟨by omega,by omega⟩,aD ⟨by omega,by omega⟩,aT (by omega) (by omega)];(cases hw:s.2.getD x.Frame.toNat default with|true=>rw[cTq,aD ⟨by omega,by omega⟩,Bool.true_or]|false=>rw[cFq,aD ⟨by omega,by omega⟩,Bool.false_or])}
  by_cases e:x.Frame=-1;{have hin:M.inR (-1) 19 x.Frame=true:=(by rw[M.inR_iff];omega);rw[hin,bT,cFq,dT e,cTq];(cases hw:x.Write with|true=>have:M.slotOk x=false:=(by unfold M.slotOk;rw[dT e,hw];rfl);rw[this];rfl|false=>(cases hd:x.Dirty with|true=>have:M.slotOk x=false:=(by unfold M.slotOk;rw[dT e,hw,hd];rfl);rw[this];rfl|false=>have hx:M.slotOk x=true:=(by unfold M.slotOk;rw[dT e,hw,hd];rfl);rw[hx];simp only[cFq,oB,JO.run,hgo hx,pR,cTq];rw[aT (by omega) (by omega)]))}
  · by_cases hin:M.inR (-1) 19 x.Frame=true
    {have hr:=M.inR_iff.1 hin;have hx:M.slotOk x=true:=(by unfold M.slotOk;rw[dF e,cFq,bA,decide_eq_true_eq,decide_eq_true_eq];omega);rw[hin,bT,cFq,dF e,cFq,hx];simp only[oB,JO.run,hgo hx,pR,cTq];rw[aT (by omega) (by omega)]}
    · have hn:¬(-1<=x.Frame/\x.Frame<=19):=λc=>hin (M.inR_iff.2 c);have hx:M.slotOk x=false:=(by(cases hh:M.slotOk x with|false=>rfl|true=>have:=kW hh;omega));rw[Bool.eq_false_iff.2 hin,hx];rfl) (λs _=>by
  simp only[jG,iT,h3];rw[dF (by omega),cFq]) p ht
theorem bBj{h:DHost}(hs:SmallH h)(hl:h.Guests.length=3):
 iter (jW h) (List.replicate 20 0,List.replicate 20 false,0)=some (.ret (bif h.Guests.all M.guestOk then .go (((M.slots h.Guests).foldl M.bump2 (List.replicate 20 0,List.replicate 20 false)).1,((M.slots h.Guests).foldl M.bump2 (List.replicate 20 0,List.replicate 20 false)).2)else .out false)):=by
 have key:=(qS (xs:=h.Guests) (step:=jW h) (λ(s:List Int×List Bool) j=>(s.1,s.2,j)) M.guestOk (λs g=>g.Pages.foldl M.bump2 s) (λs=>JO.go (s.1,s.2)) (.out false) (λj s=>Tw (8*j) s) (λk g s a1 a2 a3 a4=>by
  have hg:=hs.all g a2;have:=hg.c.regs;have:=hg.pages;have:=hg.i;have:=hg.o;refine⟨?_,λhx=>?_⟩;{simp only[jW,iT,dT a1,cTq,a3];rw[aD ⟨by omega,a1⟩];(cases hlv:g.Live with|false=>have e:mW (DGuest.mk false (DCore.mk g.C.Regs g.C.Pc g.C.Root g.C.Vector g.C.Saved g.C.SavedUser g.C.Cause g.C.Bad g.C.Timer g.C.Waits g.C.User g.C.On g.C.Stopped) g.Pages g.In g.Out)=some (decide (g=M.noGuest)):=(by have:=bFy hlv;obtain⟨l,c,p,i,o⟩:=g;simp only at hlv;subst hlv;exact this);rw[bF,cTq,e,oB];have e2:M.guestOk g=decide (g=M.noGuest):=(by unfold M.guestOk;rw[hlv];rfl);rw[e2];by_cases hz:g=M.noGuest;{rw[dT hz,hz];simp only[bT,cFq,oB,JO.run,qK,cTq,M.noGuest,List.foldl_nil];rw[aT (by omega) (by omega)]};{rw[dF hz];rfl}|true=>rw[bT,cFq];have e2:M.guestOk g=(M.coreOk g.C&&(decide (g.Pages.length=8)&&g.Pages.all M.slotOk)&&M.rowOk g.In&&M.rowOk g.Out):=(by unfold M.guestOk;rw[hlv];rfl);show Option.bind (Option.bind (kI g.C) _) _=_;rw[aQk (by omega),oB,e2];(cases hc:M.coreOk g.C with|false=>rfl|true=>rw[bT,cFq,Bool.true_and];by_cases hp:g.Pages.length=8;{rw[dT hp,show decide (((g.Pages.length:Nat):Int)=8)=true by simp;omega,bT,cFq,aEe (by omega),oB,aEe (by omega)];(cases hri:M.rowOk g.In with|false=>simp[JO.run]|true=>rw[bT,cFq,oB];(cases hro:M.rowOk g.Out with|false=>simp[JO.run]|true=>rw[bT,cFq,(aTe (by omega) a3 a4 (by omega)).1];(cases hpp:g.Pages.all M.slotOk with|false=>rfl|true=>simp only[cTq,oB,LO.val,JO.run,qK,Bool.and_self];rw[aT (by omega) (by omega)])))};{rw[dF hp,show decide (((g.Pages.length:Nat):Int)=8)=false by simp;omega];rfl}))}
  · obtain⟨q1,q2⟩:=lD hx;have:=(aTe q2 a3 a4 (by omega)).2 q1;exact⟨this.tl.mono (by omega),this.len⟩) (λs _=>by
  simp only[jW];rw[dF (by omega),cFq]) (List.replicate 20 0,List.replicate 20 false) ⟨Tl.zero.mono (by omega),by simp⟩).1
 rw[pL]at key;exact key
theorem bDx{ss:List DSlot}(h:ss.all M.slotOk=true):((List.range 20).all λf=>!(decide (1<M.many ss (f:Int))&&ss.any λs=>decide (s.Frame=(f:Int))&&s.Write))=M.alone ss:=by
 apply dbe;simp only[M.alone,List.all_eq_true,List.mem_range,Bool.not_eq_true',Bool.and_eq_false_iff,decide_eq_false_iff_not,List.any_eq_false,bA,decide_eq_true_eq,Bool.or_eq_true,not_and];constructor
 · intro q s hs
   cases hw:s.Write with
   |false=>exact .inl rfl
   |true=>
    have hx:=List.all_eq_true.1 h s hs;have hr:=kW hx;have hf:s.Frame≠-1:=λe=>by unfold M.slotOk at hx;rw[dT e,hw]at hx;simp at hx
    rcases q s.Frame.toNat (by omega)with q|q;{rw[show((s.Frame.toNat:Nat):Int)=s.Frame by omega]at q;exact .inr (by omega)};{exact absurd hw (by simpa using q s hs (by omega))}
 {intro q f hf;by_cases hm:1<M.many ss (f:Int);{refine .inr λs hs e=>?_;rcases q s hs with q|q;{simp[q]};{rw[e]at q;omega}};{exact .inl hm}}
theorem aPd{h:DHost}(hs:SmallH h):mU h=some (M.hostOk h):=by
 have:=hs.words;unfold mU M.hostOk;rw[bBx (by omega),oB];by_cases hl:h.Words.length=160
 · rw[dT (p:=(h.Words.length:Int)<=160) (by omega),dT hl]
   cases M.wordsOk h.Words with
   |false=>rfl
   |true=>
    rw[Bool.true_and,bT,cFq,dT (p:=((h.Words.length:Nat):Int)=160) (by omega),bT,cFq];by_cases hg:h.Guests.length=3
    · rw[dT hg,dT (p:=((h.Guests.length:Nat):Int)=3) (by omega),bT,cFq]
      rw[show Int.toNat (20:Int)=20 from rfl,bBj hs hg];cases ha:h.Guests.all M.guestOk with
      |false=>rfl
      |true=>
       have hsl:=wS ha;simp only[cTq,oB,LO.val,JO.run,vQ,Bool.true_and];rw[aMi]
       have key:=aXx (n:=20) (step:=mI ((M.slots h.Guests).foldl M.bump (List.replicate 20 0),((M.slots h.Guests).foldl M.bump2 (List.replicate 20 0,List.replicate 20 false)).2)) (λk=>k) (λf=>!(decide (1<M.many (M.slots h.Guests) (f:Int))&&(M.slots h.Guests).any λs=>decide (s.Frame=(f:Int))&&s.Write)) (JO.go ()) (.out false) (λi hi=>by
        have q1:=aAa hsl hi;have q2:=uP hsl;obtain⟨q3,q4⟩:=aMa hi (p:=(List.replicate 20 0,List.replicate 20 false)) (by simp) hsl;unfold M.takers at q1 q2;simp only[mI,iT];have e0:decide ((1:Int)<(List.foldl M.bump (List.replicate 20 0) (M.slots h.Guests)).getD i default)=decide (1<M.many (M.slots h.Guests) (i:Int)):=(by rw[decide_eq_decide,q1];omega);rw[dT (p:=(i:Int)<20) (by omega),cTq,aD ⟨by omega,by omega⟩,e0,q4];rw[show(List.replicate 20 false).getD i default=false by rw[cV (by rw[List.length_replicate];omega),List.getElem_replicate],Bool.false_or];by_cases e:1<M.many (M.slots h.Guests) (i:Int)
        · rw[dT e,cTq,aD ⟨by omega,by omega⟩]
          cases(M.slots h.Guests).any λs=>decide (s.Frame=(i:Int))&&s.Write with
          |true=>rfl
          |false=>simp only[cFq,oB,JO.run,qN,Bool.and_false,bF,cTq];rw[aT (by omega) (by omega)]
        · rw[dF e];simp only[cFq,oB,JO.run,qN,Bool.false_and,bF,cTq];rw[aT (by omega) (by omega)]) (by
        simp only[mI];rfl)
       rw[key,bDx hsl];cases M.alone (M.slots h.Guests)<;>rfl
    {rw[dF hg,dF (p:=((h.Guests.length:Nat):Int)=3) (by omega)];rfl}
 {rw[dF hl,dF (p:=((h.Words.length:Nat):Int)=160) (by omega)];cases(decide ((h.Words.length:Int)<=160)&&M.wordsOk h.Words)<;>rfl}
structure HOk (h : DHost) : Prop where
 len:h.Words.length=160
 words:M.wordsOk h.Words=true
 three:h.Guests.length=3
 all:h.Guests.all M.guestOk=true
 alone:M.alone (M.slots h.Guests)=true
theorem nI{h:DHost}:M.hostOk h=true↔HOk h:=by unfold M.hostOk;simp only[bA,decide_eq_true_eq];exact⟨λ⟨⟨⟨a,b⟩,c,d⟩,e⟩=>⟨a,b,c,d,e⟩,λh=>⟨⟨⟨h.len,h.words⟩,h.three,h.all⟩,h.alone⟩⟩
namespace M
noncomputable def there (h:DHost)(g:Int):Bool:=hostOk h&&(inR 0 2 g&&(h.Guests.getD g.toNat default).Live)
end M
theorem aBy{h:DHost}{g:Int}:M.there h g=true↔HOk h/\0<=g/\g<=2/\(h.Guests.getD g.toNat default).Live=true:=by unfold M.there;rw[bA,bA,nI,M.inR_iff];exact⟨λ⟨a,⟨b,c⟩,d⟩=>⟨a,b,c,d⟩,λ⟨a,b,c,d⟩=>⟨a,⟨b,c⟩,d⟩⟩
theorem aZt{gs:List DGuest}{g:Int}(h3:gs.length=3):pB gs g=some (M.inR 0 2 g&&(gs.getD g.toNat default).Live):=by unfold pB M.inR;by_cases h0:0<=g;{by_cases h1:g<3;{rw[dT h0,dT h1,dT (p:=g<=2) (by omega),cTq,cTq,aD ⟨h0,by omega⟩];rfl};{rw[dT h0,dF h1,dF (p:=g<=2) (by omega)];rfl}};{rw[dF h0];rfl}
theorem zM{h:DHost}{g:Int}(hs:SmallH h):fF h g=some (M.there h g):=by unfold fF M.there;rw[bAp hs,oB];(cases hh:M.hostOk h with|false=>rfl|true=>have hk:=nI.1 hh;rw[cTq,aZt hk.three];rfl)
theorem aJr{h:DHost}{g:Int}(hs:SmallH h):iX h g=some (M.there h g):=by unfold iX M.there;rw[aPd hs,oB];(cases hh:M.hostOk h with|false=>rfl|true=>have hk:=nI.1 hh;have:=hk.three;rw[cTq,Bool.true_and,aDt,oB];(cases hi:M.inR 0 2 g with|false=>rfl|true=>have:=M.inR_iff.1 hi;rw[cTq,Bool.true_and,aD ⟨by omega,by omega⟩]))
theorem aQl{T:Type}{xs ys:List T}(h:xs.length=ys.length):over xs 0 xs.length ys=ys:=by simp only[over,h,Nat.min_self,List.take_length,Nat.zero_add,List.take_zero,List.nil_append];rw[List.drop_eq_nil_of_le (by omega),List.append_nil]
theorem kT{xs:List Int}(h:xs.length<=1048576):dK xs=some xs:=by unfold dK;rw[aD ⟨by omega,by omega,by omega⟩,aQl (by simp)]
theorem aYz{c:DCore}(h:SmallC c):nE c=some c:=by have:=h.regs;unfold nE;rw[aD ⟨by simp;omega,by simp;omega⟩];rfl
theorem aYd{xs ys:List Int}{o k:Nat}(ho:o+k<=xs.length):(over xs o k ys).length=xs.length:=aCu ho
theorem bCq{xs ys:List Int}{n:Nat}(h1:xs.length=n)(h2:ys.length=n)(h:∀a,a<n->xs.getD a default=ys.getD a default):xs=ys:=by apply List.ext_getElem (by omega);intro i q1 q2;have:=h i (by omega);rwa[cV q1,cV q2]at this
theorem bAx{xs:List Int}{o:Nat}(h:o+8<=xs.length):((xs.drop o).take 8).length=8:=by simp;omega
namespace M
def word(ws:List Int)(ps:List DSlot)(a:Nat):Int:=if(ps.getD (a/8) default).Frame<0 then 0 else ws.getD ((ps.getD (a/8) default).Frame.toNat*8+a%8) default
def mem(ws:List Int)(ps:List DSlot):List Int:=(List.range 64).map (word ws ps)
def page(ws:List Int)(f:Nat):List Int:=(ws.drop (f*8)).take 8
end M
theorem aLh{ws:List Int}{ps:List DSlot}:(M.mem ws ps).length=64:=by simp[M.mem]
theorem aSg{ws:List Int}{ps:List DSlot}{a:Nat}(ha:a<64):(M.mem ws ps).getD a default=M.word ws ps a:=by rw[cV (by rw[aLh];exact ha)];simp[M.mem]
theorem aPq{xs:List Int}{f:Int}(h0:0<=f)(h1:f*8+8<=xs.length)(h2:f<=1000000):iZ xs f=some (M.page xs f.toNat):=by unfold iZ M.page;rw[aT (z:=f*8) (by omega) (by omega),aT (z:=f+1) (by omega) (by omega),aT (z:=(f+1)*8) (by omega) (by omega),aD ⟨by omega,by omega,by omega⟩];rw[show Int.toNat ((f+1)*8)-Int.toNat (f*8)=8 by omega,show Int.toNat (f*8)=f.toNat*8 by omega]
theorem bAw{xs:List Int}{f:Int}(h0:0<=f)(h1:f*8+8<=xs.length)(h2:f<=1000000):iS xs f=some (xs,(f.toNat*8,8)):=by unfold iS;rw[aT (z:=f*8) (by omega) (by omega),aT (z:=f+1) (by omega) (by omega),aT (z:=(f+1)*8) (by omega) (by omega),aD ⟨by omega,by omega,by omega⟩];rw[show Int.toNat ((f+1)*8)-Int.toNat (f*8)=8 by omega,show Int.toNat (f*8)=f.toNat*8 by omega]
theorem aMv{b:DBare}(hs:SmallB b):jE b=some b:=by unfold jE;rw[kT hs.c.regs,kT hs.mem,kT hs.i,kT hs.o];rfl
structure Live (h : DHost) (g : Int) (x : DGuest) : Prop where
 small:SmallG x
 ok:HOk h
 lo:0<=g
 hi:g<=2
 at_:h.Guests.getD g.toNat default=x
 live:x.Live=true
 core:M.coreOk x.C=true
 pages:x.Pages.length=8
 slots:x.Pages.all M.slotOk=true
 inn:M.rowOk x.In=true
 out:M.rowOk x.Out=true
theorem jN{h:DHost}{g:Int}(hs:SmallH h)(ht:M.there h g=true):Live h g (h.Guests.getD g.toNat default):=by obtain⟨hk,h0,h1,h2⟩:=aBy.1 ht;have:=hk.three;have hm:=mH (xs:=h.Guests) (k:=g.toNat) (by omega);have ho:=List.all_eq_true.1 hk.all _ hm;unfold M.guestOk at ho;rw[h2,cTq]at ho;simp only[bA,decide_eq_true_eq]at ho;exact⟨hs.all _ hm,hk,h0,h1,rfl,h2,ho.1.1.1,ho.1.1.2.1,ho.1.1.2.2,ho.1.2,ho.2⟩
namespace M
def freeStep(ss:List DSlot)(s:List Int)(i:Nat):List Int:=bif decide (many ss (i:Int)=0)then s++[(i:Int)]else s
def free(ss:List DSlot):List Int:=(List.range 20).foldl (freeStep ss) []
noncomputable def hostFree (h:DHost):List Int:=bif hostOk h then free (slots h.Guests)else[]
end M
theorem wO{ss:List DSlot}:M.free ss=((List.range 20).filter λ(i:Nat)=>decide (M.many ss (i:Int)=0)).map λ(i:Nat)=>(i:Int):=by
 have e:∀(xs:List Nat) (s:List Int),xs.foldl (M.freeStep ss) s=s++(xs.filter λ(i:Nat)=>decide (M.many ss (i:Int)=0)).map λ(i:Nat)=>(i:Int):=by
  intro xs;induction xs with
  |nil=>intro s;simp
  |cons x xs ih=>intro s;rw[List.foldl_cons,ih,List.filter_cons];unfold M.freeStep;cases decide (M.many ss (x:Int)=0)<;>simp
 unfold M.free;rw[e];simp
theorem aCb{ss:List DSlot}{s:List Int}{i n:Nat}(h:s.length<=n):(M.freeStep ss s i).length<=n+1:=by unfold M.freeStep;cases decide (M.many ss (i:Int)=0)<;>simp<;>omega
theorem aOc{ss:List DSlot}:(M.free ss).length<=20:=by rw[wO,List.length_map];have:=List.length_filter_le (λ(i:Nat)=>decide (M.many ss (i:Int)=0)) (List.range 20);simpa using this
theorem bFb{h:DHost}(h3:h.Guests.length=3)(hall:h.Guests.all M.guestOk=true):nG h=some (M.takers (M.slots h.Guests)):=by
 have hin:∀(k:Nat) (g:DGuest) (xs:List Int) (h1:(k:Int)<(h.Guests.length:Int)) (h2:g∈h.Guests) (h3:h.Guests.getD k default=g) (h4:Tl (8*k) xs),
  iter (kC h (xs,(k:Int))) (xs,0)=some (.ret (.go (g.Pages.foldl M.bump xs)))/\Tl (8*k+g.Pages.length) (g.Pages.foldl M.bump xs):=by
  intro k g xs h1 h2 h3 h4;obtain⟨g1,g2⟩:=lD (List.all_eq_true.1 hall g h2)
  exact rE (xs:=g.Pages) (step:=kC h (xs,(k:Int))) (λs j=>(s,j)) M.bump (λs=> .go s) (λj s=>Tl (8*k+j) s) (λj x s a1 a2 a3 a4=>by
   have hx:=List.all_eq_true.1 g1 x a2;have hr:=kW hx;have hl:=a4.len;refine⟨?_,a4.bump hx⟩;simp only[kC,iT,h3,dT a1,cTq];rw[aD ⟨by omega,h1⟩,aD ⟨by omega,h1⟩,aD ⟨by omega,a1⟩,a3];unfold M.bump;by_cases e:x.Frame=-1;{rw[dF (p:=(0:Int)<=x.Frame) (by omega),dT e];simp only[cTq,cFq,oB,JO.run,qR];rw[aT (by omega) (by omega)]}
   · have q1:=a4.low x.Frame.toNat (by omega);have q2:=a4.top x.Frame.toNat (by omega);rw[dT (p:=(0:Int)<=x.Frame) (by omega),dF e,cTq,aD ⟨by omega,by omega⟩,aD ⟨by omega,by omega⟩,aT (by omega) (by omega)];simp only[cTq,cFq,oB,JO.run,qR];rw[aT (by omega) (by omega)]) (λs _=>by
   simp only[kC,iT,h3];rw[aD ⟨by omega,h1⟩,dF (by omega),cFq]) xs h4
 have key:=(rE (xs:=h.Guests) (step:=mJ h) (λs j=>(s,j)) (λs g=>g.Pages.foldl M.bump s) (λs=> .go s) (λk s=>Tl (8*k) s) (λk g s a1 a2 a3 a4=>by
  obtain⟨b1,b2⟩:=hin k g s a1 a2 a3 a4;refine⟨?_,b2.mono (by have:=(lD (List.all_eq_true.1 hall g a2)).2;omega)⟩;simp only[mJ,dT a1,cTq];rw[b1];simp only[oB,LO.val,JO.run,wH];rw[aT (by omega) (by omega)]) (λs _=>by
  simp only[mJ];rw[dF (by omega),cFq]) (List.replicate 20 0) (Tl.zero.mono (by omega))).1
 unfold nG;rw[show Int.toNat (20:Int)=20 from rfl,key];simp only[oB,LO.val,JO.run,wB];rw[pL];rfl
theorem bGg{h:DHost}(hs:SmallH h)(hk:HOk h):nG h=some (M.takers (M.slots h.Guests)):=bFb hk.three hk.all
theorem aLq{ss:List DSlot}(hss:ss.all M.slotOk=true){i:Nat}(hi:i<20){s:List Int}(hl:s.length<=i){Y:Type}:
 (grd ((0:Int)<=(i:Int)/\(i:Int)<((List.length (M.takers ss):Nat):Int)) (cond (decide ((List.getD (M.takers ss) i default)=(0:Int))) (grd ((List.length s+List.length ([(i:Int)]:List Int))*8<=2^47/\List.length s+List.length ([(i:Int)]:List Int)<=2^47) (some (JO.go (s++([(i:Int)]:List Int))))) (some (JO.go s))):Option (JO (List Int) Y))=some (.go (M.freeStep ss s i)):=by
 have hl2:=uP hss;have e0:decide ((M.takers ss).getD i default=0)=decide (M.many ss (i:Int)=0):=(by rw[decide_eq_decide,aAa hss hi];omega);rw[aD ⟨by omega,by omega⟩,e0];unfold M.freeStep;(cases decide (M.many ss (i:Int)=0)with|true=>rw[cTq,cTq,aD ⟨by simp;omega,by simp;omega⟩]|false=>rfl)
theorem aQe{gs:List DGuest}(hl:gs.length<=1048576)(h:gs.all M.guestOk=true):lL gs=some (M.free (M.slots gs)):=by
 have hss:=wS h;have hl2:=uP hss;unfold lL;rw[aRk hl h,oB]
 have key:=(aJa (n:=20) (step:=jP (M.takers (M.slots gs))) (λs j=>(s,j)) (M.freeStep (M.slots gs)) (λs=>JO.go s) (λi s=>s.length<=i) (λi s hi hs=>by
  refine⟨?_,aCb hs⟩;simp only[jP,iT];rw[dT (p:=(i:Int)<_) (by omega),cTq,aLq hss hi hs,oB];simp only[JO.run,sB];rw[aT (by omega) (by omega)]) (λs _=>by
  simp only[jP];rw[dF (by omega),cFq]) [] (by simp)).1
 rw[key];rfl
theorem aVo{h:DHost}(hs:SmallH h):nZ h=some (M.hostFree h):=by
 unfold nZ M.hostFree;rw[aPd hs,oB];cases hh:M.hostOk h with
 |false=>rfl
 |true=>
  have hk:=nI.1 hh;have hss:=wS hk.all;rw[bT,cFq,bGg hs hk,oB]
  have key:=(aJa (n:=20) (step:=kK (M.takers (M.slots h.Guests))) (λs j=>(s,j)) (M.freeStep (M.slots h.Guests)) (λs=>JO.go s) (λi s=>s.length<=i) (λi s hi hs=>by
   refine⟨?_,aCb hs⟩;simp only[kK,iT];rw[dT (p:=(i:Int)<20) (by omega),cTq,aLq hss hi hs,oB];simp only[JO.run,tU];rw[aT (by omega) (by omega)]) (λs _=>by
   simp only[kK];rfl) [] (by simp)).1
  rw[key];rfl
section
variable {T : Type} [Inhabited T] {f : T → T} {k : Nat} {xs : List T}
def up{T:Type}(f:T->T)(k:Nat)(xs:List T):List T:=xs.mapIdx λi x=>if i<k then f x else x
theorem aIm{i:Nat}:(up f k xs)[i]? =(xs[i]?).map λx=>if i<k then f x else x:=by simp[up]
theorem yV:(up f k xs).length=xs.length:=by simp[up]
theorem yW:up f 0 xs=xs:=by apply List.ext_getElem?;intro i;rw[aIm];cases xs[i]? <;>simp
theorem aDb(h:xs.length<=k):up f k xs=xs.map f:=by apply List.ext_getElem?;intro i;rw[aIm,List.getElem?_map];by_cases e:i<xs.length;{rw[List.getElem?_eq_getElem e];simp only[Option.map_some,if_pos (show i<k by omega)]};{rw[List.getElem?_eq_none (by omega)];rfl}
theorem aDq(h:k<xs.length):(up f k xs).set k (f (xs.getD k default))=up f (k+1) xs:=by apply List.ext_getElem?;intro i;rw[List.getElem?_set,aIm,aIm];by_cases e:k=i;{subst e;rw[if_pos rfl,if_pos (by rw[yV];exact h),List.getElem?_eq_getElem h,cV h];simp};{rw[if_neg e];(cases xs[i]? with|none=>rfl|some x=>simp only[Option.map_some];by_cases q:i<k;{rw[if_pos q,if_pos (by omega)]};{rw[if_neg q,if_neg (by omega)]})}
theorem bEx{i:Nat}(h:i<xs.length):(up f k xs).getD i default=if i<k then f (xs.getD i default)else xs.getD i default:=by rw[List.getD_eq_getElem?_getD,aIm,List.getElem?_eq_getElem h,cV h];rfl
theorem aIb(h:k<xs.length):(up f k xs).getD k default=xs.getD k default:=by rw[bEx h,if_neg (by omega)]
end
namespace M
def mapG(f:DSlot->DSlot)(g:DGuest):DGuest:=⟨g.Live,g.C,g.Pages.map f,g.In,g.Out⟩
def upG(f:DSlot->DSlot)(j:Nat)(g:DGuest):DGuest:=⟨g.Live,g.C,up f j g.Pages,g.In,g.Out⟩
end M
section
variable {f : DSlot → DSlot} {k j : Nat} {gs : List DGuest}
theorem bCb{g:DGuest}:M.upG f 0 g=g:=by unfold M.upG;rw[yW]
theorem bFl{g:DGuest}(h:g.Pages.length<=j):M.upG f j g=M.mapG f g:=by unfold M.upG M.mapG;rw[aDb h]
end
theorem bBi{ss:List DSlot}{q:Int}:0<M.many ss q↔∃s∈ss,s.Frame=q:=by unfold M.many;rw[List.countP_pos_iff];simp
theorem bBp{T U:Type}[Inhabited T][Inhabited U]{f:T->U}{xs:List T}{j:Nat}(h:j<xs.length):(xs.map f).getD j default=f (xs.getD j default):=by rw[cV (by rw[List.length_map];exact h),cV h,List.getElem_map]
theorem pK{xs:List DSlot}(h:xs.length<=1048576):eV xs=some xs:=by unfold eV;rw[aD ⟨by omega,by omega,by omega⟩,aQl (by simp)]
theorem aUc{g:DGuest}(h:M.guestOk g=true)(hl:g.Live=false):g=M.noGuest:=by unfold M.guestOk at h;rw[hl,cFq,decide_eq_true_eq]at h;exact h
theorem yR{g:DGuest}(hs:SmallG g)(h:M.guestOk g=true):eU g=some g:=by unfold eU;(cases hl:g.Live with|false=>have:=aUc h hl;subst this;rfl|true=>rw[bT,cFq,kT hs.c.regs,pK hs.pages,kT hs.i,kT hs.o];simp only[oB];rw[<-hl])
theorem aUg{g:DGuest}(hs:SmallG g)(h:M.guestOk g=true):gV g=some g:=by have:=hs.pages;have:=hs.i;have:=hs.o;unfold gV;(cases hl:g.Live with|false=>have:=aUc h hl;subst this;rfl|true=>rw[bT,cFq,aYz hs.c,oB,aD ⟨by omega,by omega⟩,aD ⟨by omega,by omega⟩,aD ⟨by omega,by omega⟩,<-hl])
theorem xG{gs:List DGuest}(hl:gs.length<=1048576)(hs:∀g∈gs,SmallG g)(h:gs.all M.guestOk=true):gK gs=some gs:=by
 unfold gK;rw[aD ⟨by omega,by omega,by omega⟩]
 have key:=aBr (xs:=gs) (ys:=List.replicate (Int.toNat (gs.length:Int)) M.noGuest) (step:=fL gs) (by simp) (λk zs hk hz=>by
  have h1:(k:Int)<(gs.length:Int):=(by omega);simp only[fL,dT h1,cTq];rw[aD ⟨by omega,h1⟩,iT];show Option.bind (eU (gs.getD k default)) _=_;rw[yR (hs _ (mH hk)) (List.all_eq_true.1 h _ (mH hk)),oB,aD ⟨by omega,by omega⟩,aT (by omega) (by omega)]) (λzs hz=>by
  simp only[fL];rw[dF (by omega),cFq])
 show Option.bind (Option.bind (iter (fL gs) (List.replicate (Int.toNat (gs.length:Int)) M.noGuest,0)) LO.val) _=_;rw[key];rfl
theorem aOf{h:DHost}(hs:SmallH h)(hg:h.Guests.all M.guestOk=true):kH h=some h:=by
 have:=hs.words;have:=hs.guests;unfold kH;rw[aD ⟨by simp;omega,by simp;omega⟩]
 have key:=(rE (xs:=h.Guests) (step:=mG h) (λs j=>(s,j)) (λs g=>s++[g]) (λs=>JO.go s) (λj s=>s.length=j) (λk g s a1 a2 a3 a4=>by
  refine⟨?_,by simp;omega⟩;simp only[mG,dT a1,cTq,iT,a3];rw[aD ⟨by omega,a1⟩];show Option.bind (gV g) _=_;rw[aUg (hs.all g a2) (List.all_eq_true.1 hg g a2),oB,aD ⟨by omega,by omega⟩,aT (by omega) (by omega)]) (λs _=>by
  simp only[mG];rw[dF (by omega),cFq]) [] rfl).1
 rw[key]
 have e:∀(xs ys:List DGuest),xs.foldl (λs g=>s++[g]) ys=ys++xs:=by
  intro xs;induction xs with
  |nil=>intro ys;simp
  |cons x xs ih=>intro ys;rw[List.foldl_cons,ih];simp
 rw[e];rfl
namespace M
noncomputable def hostDrop (h:DHost)(g:Int):DHost×Bool:=bif there h g then(⟨h.Words,h.Guests.set g.toNat noGuest⟩,true)else(⟨[],[]⟩,false)
end M
theorem aFs{h:DHost}{g:Int}{x:DGuest}(hs:SmallH h)(hk:HOk h)(h0:0<=g)(h1:g<=2):fP h.Guests g x=some (h.Guests.set g.toNat x):=by have:=hk.three;unfold fP;rw[xG hs.guests hs.all hk.all,oB,aD ⟨by omega,by omega⟩]
theorem aXr{h:DHost}{g:Int}(hs:SmallH h):nX h g=some (M.hostDrop h g):=by unfold nX M.hostDrop;rw[aJr hs,oB];(cases ht:M.there h g with|false=>rfl|true=>obtain⟨hk,h0,h1,-⟩:=aBy.1 ht;have:=hk.three;rw[bT,cFq,aOf hs hk.all,oB,aD ⟨h0,by omega⟩];rfl)
namespace M
def zeros(xs:List Int):Bool:=(List.range 8).all λk=>decide (xs.getD k default=0)
def used(mem:List Int):Nat->Nat
 |0=>0
 |p+1=>used mem p+(bif zeros (page mem p)then 0 else 1)
def slotFor(mem free:List Int)(p:Nat):DSlot:=bif zeros (page mem p)then⟨-1,false,false⟩else⟨free.getD (used mem p) default,true,false⟩
def slotsFor(mem free:List Int)(n:Nat):List DSlot:=(List.range n).map (slotFor mem free)
def wordsFor(mem free:List Int)(ws:List Int):Nat->List Int
 |0=>ws
 |p+1=>bif zeros (page mem p)then wordsFor mem free ws p else over (wordsFor mem free ws p) ((free.getD (used mem p) default).toNat*8) 8 (page mem p)
noncomputable def gone (gs:List DGuest):Int:=bif (gs.getD 0 default).Live then(bif (gs.getD 1 default).Live then(bif (gs.getD 2 default).Live then-1 else 2)else 1)else 0
noncomputable def placed (h:DHost)(b:DBare)(a:Nat):DHost:=⟨wordsFor b.Mem (free (slots h.Guests)) h.Words 8,h.Guests.set a ⟨true,b.C,slotsFor b.Mem (free (slots h.Guests)) 8,b.In,b.Out⟩⟩
noncomputable def bKg (h:DHost)(b:DBare):DHost:=⟨wordsFor b.Mem (free (slots h.Guests)) h.Words 8,h.Guests.set (gone h.Guests).toNat ⟨true,b.C,slotsFor b.Mem (free (slots h.Guests)) 8,b.In,b.Out⟩⟩
end M
theorem aBk{mem:List Int}{p q:Nat}(h:p<=q):M.used mem p<=M.used mem q:=by
 induction h with
 |refl=>exact Nat.le_refl _
 |step _ ih=>exact Nat.le_trans ih (by rw[M.used];omega)
theorem bEh{mem:List Int}{p:Nat}:M.used mem p<=p:=by
 induction p with
 |zero=>exact Nat.le_refl _
 |succ p ih=>rw[M.used];cases M.zeros (M.page mem p)<;>simp<;>omega
theorem uT{mem:List Int}{L n:Nat}:((List.range n).all λp=>M.zeros (M.page mem p)||decide (M.used mem p<L))=decide (M.used mem n<=L):=by
 apply dbe;simp only[List.all_eq_true,List.mem_range,Bool.or_eq_true,decide_eq_true_eq];constructor
 · intro h
   induction n with
   |zero=>simp[M.used]
   |succ n ih=>have h1:=ih λp hp=>h p (by omega);rcases h n (by omega)with h2|h2;{rw[M.used,h2];exact h1};{rw[M.used];cases M.zeros (M.page mem n)<;>simp<;>omega}
 {intro h p hp;(cases hz:M.zeros (M.page mem p)with|true=>exact .inl rfl|false=>have:=aBk (mem:=mem) (show p+1<=n by omega);rw[M.used,hz]at this;simp only[cFq]at this;exact .inr (by omega))}
theorem uV{ss:List DSlot}{i:Nat}(hi:i<(M.free ss).length):0<=(M.free ss).getD i default/\(M.free ss).getD i default<20:=by have hm:=mH hi;rw[wO]at hm;obtain⟨j,hj,e⟩:=List.mem_map.1 hm;have:=(List.mem_filter.1 hj).1;rw[List.mem_range]at this;rw[wO,<-e];omega
theorem aXi{xs:List Int}{p:Nat}(h:p*8+8<=xs.length):(M.page xs p).length=8:=bAx h
theorem aXl{xs:List Int}(h:xs.length=8):oA xs=some (M.zeros xs):=by
 unfold oA M.zeros
 have key:=fU (n:=8) (step:=iA xs) (λi=>(i:Int)) (λk=>decide (xs.getD k default=0)) (JO.go ()) (.out false) (λi hi _=>by
  simp only[iA,iT];rw[dT (p:=(i:Int)<_) (by omega),cTq,aD ⟨by omega,by omega⟩,aT (by omega) (by omega)];cases decide (xs.getD i default=0)<;>rfl) (λ_=>by
  simp only[iA];rw[dF (by omega),cFq])
 show Option.bind (Option.bind (iter (iA xs) ((0:Nat):Int)) LO.val) _=_;rw[key];cases(List.range 8).all λk=>decide (xs.getD k default=0)<;>rfl
theorem aTs{T:Type}{n:Nat}{f:Nat->T}{z x:T}{p:Nat}(hp:p<n)(hx:x=f p):((List.range p).map f++List.replicate (n-p) z).set p x=(List.range (p+1)).map f++List.replicate (n-(p+1)) z:=by rw[List.set_append_right _ _ (by simp),show n-p=(n-(p+1))+1 by omega,List.replicate_succ];simp[List.range_succ,hx]
theorem aVl{mem free:List Int}(hm:mem.length=64)(hf:free.length<=20):nR mem free=some (bif decide (M.used mem 8<=free.length)then(M.slotsFor mem free 8,true)else([],false)):=by
 unfold nR
 have key:=fU (n:=8) (step:=kL mem free) (λp=>(M.slotsFor mem free p++List.replicate (8-p) ⟨0,false,false⟩,(M.used mem p:Int),(p:Int))) (λp=>M.zeros (M.page mem p)||decide (M.used mem p<free.length)) (JO.go (M.slotsFor mem free 8)) (.out ([],false)) (λi hi _=>by
  have hu:=bEh (mem:=mem) (p:=i);have hl:(M.slotsFor mem free i++List.replicate (8-i) (⟨0,false,false⟩:DSlot)).length=8:=(by simp[M.slotsFor];omega);simp only[kL,iT];rw[dT (p:=(i:Int)<_) (by simp;omega),cTq,aPq (by omega) (by omega) (by omega),oB,iT,aXl (aXi (by omega)),oB];have eu:M.used mem (i+1)=M.used mem i+(bif M.zeros (M.page mem i)then 0 else 1):=rfl;cases hz:M.zeros (M.page mem i)with
  |true=>rw[hz]at eu;simp only[cTq,Nat.add_zero]at eu;rw[cTq,aD ⟨by omega,by omega⟩];simp only[oB,JO.run,oS,Bool.true_or,cTq,eu];rw[aT (by omega) (by omega)];have:(⟨-1,false,false⟩:DSlot)=M.slotFor mem free i:=(by unfold M.slotFor;rw[hz];rfl);rw[show M.slotsFor mem free i=(List.range i).map (M.slotFor mem free)from rfl,aTs hi this];rfl
  |false=>
   rw[hz]at eu;simp only[cFq]at eu;rw[cFq,Bool.false_or];by_cases e:M.used mem i<free.length;{rw[dT e,dF (p:=(M.used mem i:Int)=_) (by omega),cFq,aD ⟨by omega,by omega⟩,aD ⟨by omega,by omega⟩];simp only[oB,JO.run,oS,cTq,eu];rw[aT (z:=(M.used mem i:Int)+1) (by omega) (by omega),aT (by omega) (by omega)];have:(⟨free.getD (M.used mem i) default,true,false⟩:DSlot)=M.slotFor mem free i:=(by unfold M.slotFor;rw[hz];rfl);rw[show M.slotsFor mem free i=(List.range i).map (M.slotFor mem free)from rfl,aTs hi this];rfl}
   · have:=‹∀j,j<i->_›;have h2:((List.range i).all λp=>M.zeros (M.page mem p)||decide (M.used mem p<free.length))=true:=(by simp only[List.all_eq_true,List.mem_range];exact this);rw[uT,decide_eq_true_eq]at h2;rw[dF e,dT (p:=(M.used mem i:Int)=_) (by omega)];rfl) (λ_=>by
  simp only[kL];rw[dF (by simp),cFq];simp)
 rw[uT]at key;rw[show((List.replicate (Int.toNat (8:Int)) (DSlot.mk (0:Int) false false)),(0:Int),(0:Int))=(M.slotsFor mem free 0++List.replicate (8-0) ⟨0,false,false⟩,((M.used mem 0:Nat):Int),((0:Nat):Int))from rfl,key];cases decide (M.used mem 8<=free.length)<;>rfl
theorem rU{mem ws:List Int}{ss:List DSlot}(hw:ws.length=160):∀{p:Nat},p<=8->M.used mem p<=(M.free ss).length->(M.wordsFor mem (M.free ss) ws p).length=160
 |0,_,_=>hw
 |p+1,h8,hu=>by have eu:M.used mem (p+1)=M.used mem p+(bif M.zeros (M.page mem p)then 0 else 1):=rfl;have ih:=rU (mem:=mem) (ss:=ss) hw (p:=p) (by omega) (by omega);unfold M.wordsFor;(cases hz:M.zeros (M.page mem p)with|true=>rw[cTq];exact ih|false=>rw[hz]at eu;simp only[cFq]at eu;have:=uV (ss:=ss) (i:=M.used mem p) (by omega);rw[cFq,aYd (by omega),ih])
theorem aRy{mem ws:List Int}{ss:List DSlot}(hm:mem.length=64)(hw:ws.length=160)(hu:M.used mem 8<=(M.free ss).length):gZ ws (M.slotsFor mem (M.free ss) 8) mem=some (M.wordsFor mem (M.free ss) ws 8):=by
 unfold gZ;rw[kT (by omega),oB]
 have key:=fU (n:=8) (step:=gN (M.slotsFor mem (M.free ss) 8) mem) (λp=>(M.wordsFor mem (M.free ss) ws p,(p:Int))) (λ_=>true) (JO.go (M.wordsFor mem (M.free ss) ws 8)) (.out []) (λi hi _=>by
  have hmo:=aBk (mem:=mem) (show i+1<=8 by omega);have eu:M.used mem (i+1)=M.used mem i+(bif M.zeros (M.page mem i)then 0 else 1):=rfl;have hlen:=rU (mem:=mem) (ss:=ss) hw (p:=i) (by omega) (by omega);have hg:(M.slotsFor mem (M.free ss) 8).getD i default=M.slotFor mem (M.free ss) i:=(by rw[cV (by simpa[M.slotsFor]using hi)];simp[M.slotsFor]);have hl8:(M.slotsFor mem (M.free ss) 8).length=8:=(by simp[M.slotsFor]);simp only[gN,iT];have e0:decide (((M.slotsFor mem (M.free ss) 8).getD i default).Frame=-1)=decide ((M.slotFor mem (M.free ss) i).Frame=-1):=(by rw[hg]);rw[dT (p:=(i:Int)<_) (by omega),cTq,aD ⟨by omega,by omega⟩,e0,hg,cTq];have ew:M.wordsFor mem (M.free ss) ws (i+1)=(bif M.zeros (M.page mem i)then M.wordsFor mem (M.free ss) ws i else over (M.wordsFor mem (M.free ss) ws i) (((M.free ss).getD (M.used mem i) default).toNat*8) 8 (M.page mem i)):=rfl;cases hz:M.zeros (M.page mem i)with
  |true=>have:M.slotFor mem (M.free ss) i=⟨-1,false,false⟩:=(by unfold M.slotFor;rw[hz];rfl);rw[hz,cTq]at ew;rw[this,dT rfl,ew];simp only[bT,cFq,oB,JO.run,gP];rw[aT (by omega) (by omega)];rfl
  |false=>have:M.slotFor mem (M.free ss) i=⟨(M.free ss).getD (M.used mem i) default,true,false⟩:=(by unfold M.slotFor;rw[hz];rfl);rw[hz,cFq]at ew;rw[hz]at eu;simp only[cFq]at eu;have hr:=uV (ss:=ss) (i:=M.used mem i) (by omega);rw[this,ew,dF (by simp only[];omega),bF,cTq,bAw (by simp only[];omega) (by simp only[];omega) (by simp only[];omega),oB,aD rfl,aD (by simp only[];omega),aPq (by omega) (by omega) (by omega),oB,iT];simp only[oB,JO.run,gP];rw[aT (by omega) (by omega)];rfl) (λ_=>by
  simp only[gN];rw[dF (by simp[M.slotsFor]),cFq])
 rw[show((ws,(0:Int)):List Int×Int)=(M.wordsFor mem (M.free ss) ws 0,((0:Nat):Int))from rfl,key,show(List.range 8).all (λ_=>true)=true by simp];simp only[cTq,oB,LO.val,JO.run,kE]
theorem aRv{gs:List DGuest}(h:gs.length=3):mF gs=some (M.gone gs):=by
 unfold mF;have st:∀i:Nat,i<3->gJ gs (i:Int)=some (bif (gs.getD i default).Live then .next ((i+1:Nat):Int)else .ret (.out (i:Int))):=λi hi=>by simp only[gJ,iT];rw[dT (p:=(i:Int)<_) (by omega),cTq,aD ⟨by omega,by omega⟩,aT (by omega) (by omega)];cases(gs.getD i default).Live<;>rfl
 have s3:gJ gs ((3:Nat):Int)=some (.ret (.go ())):=(by simp only[gJ];rw[dF (by omega),cFq]);have s0:=st 0 (by omega);have s1:=st 1 (by omega);have s2:=st 2 (by omega);unfold M.gone;rw[show(0:Int)=((0:Nat):Int)from rfl,dL,s0];(cases(gs.getD 0 default).Live with|false=>rfl|true=>simp only[cTq];rw[show(0+1:Nat)=1 from rfl,dL,s1];(cases(gs.getD 1 default).Live with|false=>rfl|true=>simp only[cTq];rw[show(1+1:Nat)=2 from rfl,dL,s2];(cases(gs.getD 2 default).Live with|false=>rfl|true=>simp only[cTq];rw[show(2+1:Nat)=3 from rfl,dL,s3];rfl)))
theorem aHw(gs:List DGuest):-1<=M.gone gs/\M.gone gs<=2:=by unfold M.gone;cases(gs.getD 0 default).Live<;>cases(gs.getD 1 default).Live<;>cases(gs.getD 2 default).Live<;>simp
theorem aLl{b:DBare}(h:M.bareOk b=true):b.Mem.length=64:=by unfold M.bareOk at h;simp only[bA]at h;exact aYo h.1.1.2
theorem aLg{h:DHost}{g:Int}{b:DBare}(hs:SmallH h)(hk:HOk h)(hb:SmallB b)(hbk:M.bareOk b=true)(h0:0<=g)(h1:g<=2):fH h g b=some (bif decide (M.used b.Mem 8<=(M.free (M.slots h.Guests)).length)then(M.placed h b g.toNat,true)else(⟨[],[]⟩,false)):=by have hm:=aLl hbk;unfold fH;rw[aQe hs.guests hk.all,oB,aVl hm aOc,oB];by_cases e2:M.used b.Mem 8<=(M.free (M.slots h.Guests)).length;{rw[dT e2];simp only[cTq,bT,cFq];rw[aMv hb,oB,aRy hm hk.len e2,oB,aFs hs hk h0 h1];rfl};{rw[dF e2];rfl}
namespace M
def keep(s:DSlot):DSlot:=⟨s.Frame,false,s.Dirty⟩
def fresh(s:DSlot):DSlot:=⟨s.Frame,false,false⟩
def cloned(gs:List DGuest)(g a:Nat):List DGuest:=(gs.set g (mapG keep (gs.getD g default))).set a (mapG fresh (gs.getD g default))
noncomputable def hostClone (h:DHost)(g:Int):DHost×Int×Bool:=bif there h g&&decide (gone h.Guests≠-1)then(⟨h.Words,cloned h.Guests g.toNat (gone h.Guests).toNat⟩,gone h.Guests,true)else(⟨[],[]⟩,-1,false)
def nowhere:DSlot:=⟨-1,false,false⟩
def give(ps:List DSlot)(qs:List Int):List DSlot:=qs.foldl (λps q=>ps.set q.toNat nowhere) ps
def giveG(x:DGuest)(qs:List Int):DGuest:=⟨x.Live,x.C,give x.Pages qs,x.In,x.Out⟩
noncomputable def hostGive (h:DHost)(g:Int)(qs:List Int):DHost×Bool:=bif there h g&&qs.all (inR 0 7)then(⟨h.Words,h.Guests.set g.toNat (giveG (h.Guests.getD g.toNat default) qs)⟩,true)else(⟨[],[]⟩,false)
end M
theorem aAs{ss tt:List DSlot}{f:Int}:M.many (ss++tt) f=M.many ss f+M.many tt f:=by simp only[M.many,List.countP_append]
theorem uQ{x:DGuest}{gs:List DGuest}:M.slots (x::gs)=x.Pages++M.slots gs:=by simp only[M.slots,List.flatMap_cons]
theorem tR{y:DGuest}{f:Int}:∀{gs:List DGuest} {i:Nat},i<gs.length->M.many (M.slots (gs.set i y)) f+M.many (gs.getD i default).Pages f=M.many (M.slots gs) f+M.many y.Pages f
 |[],i,h=>by simp at h
 |g::gs,0,_=>by rw[List.set_cons_zero,uQ,uQ,aAs,aAs];show M.many y.Pages f+M.many (M.slots gs) f+M.many g.Pages f=_;omega
 |g::gs,i+1,h=>by have ih:=tR (y:=y) (f:=f) (gs:=gs) (i:=i) (by simpa using h);rw[List.set_cons_succ,uQ,uQ,aAs,aAs];show M.many g.Pages f+M.many (M.slots (gs.set i y)) f+M.many (gs.getD i default).Pages f=_;omega
theorem aNt{gs:List DGuest}{i:Nat}{f:Int}(h:i<gs.length):M.many (gs.getD i default).Pages f<=M.many (M.slots gs) f:=by have:=tR (y:=M.noGuest) (f:=f) h;have e:M.many M.noGuest.Pages f=0:=rfl;omega
theorem bDc{gs:List DGuest}{i j:Nat}{f:Int}(hi:i<gs.length)(hj:j<gs.length)(h:i≠j):M.many (gs.getD i default).Pages f+M.many (gs.getD j default).Pages f<=M.many (M.slots gs) f:=by have a:=tR (y:=M.noGuest) (f:=f) hi;have b:=aNt (gs:=gs.set i M.noGuest) (i:=j) (f:=f) (by rw[lS];exact hj);have e:(gs.set i M.noGuest).getD j default=gs.getD j default:=(by rw[cV (by rw[lS];exact hj),List.getElem_set_ne h,<-cV]);rw[e]at b;have e0:M.many M.noGuest.Pages f=0:=rfl;omega
theorem rT{gs:List DGuest}{i:Nat}{y:DGuest}(h:i<gs.length):(gs.set i y).getD i default=y:=by rw[cV (by rw[lS];exact h),List.getElem_set_self]
theorem aEm{gs:List DGuest}{i j:Nat}{y:DGuest}(hj:j<gs.length)(h:i≠j):(gs.set i y).getD j default=gs.getD j default:=by rw[cV (by rw[lS];exact hj),List.getElem_set_ne h,<-cV]
theorem aMk{f:Int}:∀{ps:List DSlot},M.many (ps.map M.keep) f=M.many ps f
 |[]=>rfl
 |s::ps=>by rw[List.map_cons,tP,tP,aMk];rfl
theorem aJd{f:Int}:∀{ps:List DSlot},M.many (ps.map M.fresh) f=M.many ps f
 |[]=>rfl
 |s::ps=>by rw[List.map_cons,tP,tP,aJd];rfl
theorem aMr{gs:List DGuest}:M.alone (M.slots gs)=true↔∀i,i<gs.length->∀s∈(gs.getD i default).Pages,s.Write=true->M.many (M.slots gs) s.Frame<=1:=by unfold M.alone;rw[List.all_eq_true];constructor;{intro h i hi s hs hw;have:=h s (List.mem_flatMap.2 ⟨_,mH hi,hs⟩);rw[hw]at this;exact of_decide_eq_true this};{intro h s hs;obtain⟨x,hx,hs⟩:=List.mem_flatMap.1 hs;obtain⟨i,hi,e⟩:=List.getElem_of_mem hx;(cases hw:s.Write with|false=>rfl|true=>exact dT (h i hi s (by rw[cV hi,e];exact hs) hw))}
theorem aIz{x:DGuest}(hl:x.Live=true):M.guestOk x=true↔M.coreOk x.C=true/\x.Pages.length=8/\x.Pages.all M.slotOk=true/\M.rowOk x.In=true/\M.rowOk x.Out=true:=by
 unfold M.guestOk;rw[hl,cTq];simp only[bA,decide_eq_true_eq];constructor
 · rintro⟨⟨⟨a,b,c⟩,d⟩,e⟩;exact⟨a,b,c,d,e⟩
 · rintro⟨a,b,c,d,e⟩;exact⟨⟨⟨a,b,c⟩,d⟩,e⟩
theorem aXf{x:DGuest}(hl:x.Live=false)(h:M.guestOk x=true):x=M.noGuest:=by unfold M.guestOk at h;rw[hl,cFq,decide_eq_true_eq]at h;exact h
theorem aGg{gs:List DGuest}(h:gs.all M.guestOk=true){i:Nat}(hi:i<gs.length):M.guestOk (gs.getD i default)=true:=List.all_eq_true.1 h _ (mH hi)
theorem aUy{gs:List DGuest}(h:gs.all M.guestOk=true){i:Nat}{y:DGuest}(hy:M.guestOk y=true):(gs.set i y).all M.guestOk=true:=by rw[List.all_eq_true];intro z hz;rcases List.mem_or_eq_of_mem_set hz with hz|rfl;{exact List.all_eq_true.1 h z hz};{exact hy}
theorem aUe{s:DSlot}(h:M.slotOk s=true):M.slotOk (M.keep s)=true:=by unfold M.slotOk M.keep at*;by_cases e:s.Frame=-1;{rw[dT e,cTq]at h ⊢;rw[bA]at h;rw[h.2];rfl};{rw[dF e,cFq]at h ⊢;exact h}
theorem bCa{s:DSlot}(h:M.slotOk s=true):M.slotOk (M.fresh s)=true:=by unfold M.slotOk M.fresh at*;by_cases e:s.Frame=-1;{rw[dT e];rfl};{rw[dF e,cFq]at h ⊢;exact h}
theorem aXt{f:DSlot->DSlot}(hf:∀{s},M.slotOk s=true->M.slotOk (f s)=true){ps:List DSlot}(h:ps.all M.slotOk=true):(ps.map f).all M.slotOk=true:=by rw[List.all_eq_true]at*;intro s hs;obtain⟨t,ht,rfl⟩:=List.mem_map.1 hs;exact hf (h t ht)
section
variable {h : DHost} {g : Int} {x : DGuest}
theorem aYw{gs:List DGuest}(hn:M.gone gs≠-1):∃a:Nat,a<3/\M.gone gs=(a:Int)/\(gs.getD a default).Live=false:=by unfold M.gone at hn ⊢;(cases h0:(gs.getD 0 default).Live with|false=>exact⟨0,by omega,rfl,h0⟩|true=>(cases h1:(gs.getD 1 default).Live with|false=>exact⟨1,by omega,rfl,h1⟩|true=>(cases h2:(gs.getD 2 default).Live with|false=>exact⟨2,by omega,rfl,h2⟩|true=>rw[h0,h1,h2]at hn;exact absurd rfl hn)))
structure Cln (h : DHost) (g : Int) (x : DGuest) (a : Nat) : Prop where
 live:Live h g x
 lt:a<3
 ne:g.toNat≠a
 none:h.Guests.getD a default=M.noGuest
theorem aSe:(M.hostClone h g=(⟨[],[]⟩,-1,false))\/((SmallH h)->∃x a,Cln h g x a/\M.hostClone h g=(⟨h.Words,M.cloned h.Guests g.toNat a⟩,(a:Int),true)):=by unfold M.hostClone;(cases ht:M.there h g with|false=>exact .inl rfl|true=>by_cases hn:M.gone h.Guests=-1;{left;rw[dF (by simp[hn])];rfl};{right;intro hs;obtain⟨a,a3,ea,hd⟩:=aYw hn;have l:=jN hs ht;have h3:=l.ok.three;refine⟨_,a,⟨l,a3,?_,?_⟩,?_⟩;{intro e;have:=l.live;rw[e,hd]at this;cases this};{exact aXf hd (aGg l.ok.all (by omega))};{rw[dT hn,ea,iT];rfl}})
variable {a : Nat}
theorem Cln.at_g(c:Cln h g x a):(M.cloned h.Guests g.toNat a).getD g.toNat default=M.mapG M.keep x:=by have h3:=c.live.ok.three;have:=c.live.lo;have:=c.live.hi;unfold M.cloned;rw[aEm (by rw[lS];omega) (λe=>c.ne e.symm),rT (by omega),c.live.at_]
theorem Cln.at_a(c:Cln h g x a):(M.cloned h.Guests g.toNat a).getD a default=M.mapG M.fresh x:=by have h3:=c.live.ok.three;have:=c.lt;unfold M.cloned;rw[rT (by rw[lS];omega),c.live.at_]
theorem Cln.at_k(c:Cln h g x a){k:Nat}(h3k:k<3)(hg:k≠g.toNat)(ha:k≠a):(M.cloned h.Guests g.toNat a).getD k default=h.Guests.getD k default:=by have h3:=c.live.ok.three;unfold M.cloned;rw[aEm (by rw[lS];omega) (λe=>ha e.symm),aEm (by omega) (λe=>hg e.symm)]
theorem Cln.many(c:Cln h g x a){f:Int}:M.many (M.slots (M.cloned h.Guests g.toNat a)) f=M.many (M.slots h.Guests) f+M.many x.Pages f:=by have h3:=c.live.ok.three;have:=c.live.lo;have:=c.live.hi;have:=c.lt;have e1:=tR (y:=M.mapG M.keep (h.Guests.getD g.toNat default)) (f:=f) (gs:=h.Guests) (i:=g.toNat) (by omega);have e2:=tR (y:=M.mapG M.fresh (h.Guests.getD g.toNat default)) (f:=f) (gs:=h.Guests.set g.toNat (M.mapG M.keep (h.Guests.getD g.toNat default))) (i:=a) (by rw[lS];omega);rw[aEm (by omega) c.ne,c.none]at e2;rw[c.live.at_]at e1 e2;have k1:M.many (M.mapG M.keep x).Pages f=M.many x.Pages f:=aMk;have k2:M.many (M.mapG M.fresh x).Pages f=M.many x.Pages f:=aJd;have k0:M.many M.noGuest.Pages f=0:=rfl;unfold M.cloned;rw[c.live.at_];omega
theorem Cln.hostOk(c:Cln h g x a):M.hostOk ⟨h.Words,M.cloned h.Guests g.toNat a⟩=true:=by
 have k:=c.live.ok;have h3:=k.three;have:=c.live.lo;have:=c.live.hi;have:=c.lt;have hlen:(M.cloned h.Guests g.toNat a).length=3:=(by unfold M.cloned;rw[lS,lS,h3]);rw[nI];have okx:∀f:DSlot->DSlot,(∀{s},M.slotOk s=true->M.slotOk (f s)=true)->M.guestOk (M.mapG f x)=true:=λf hf=>(aIz (x:=M.mapG f x) c.live.live).2 ⟨c.live.core,by show(x.Pages.map f).length=8;rw[List.length_map];exact c.live.pages,aXt hf c.live.slots,c.live.inn,c.live.out⟩;refine⟨k.len,k.words,hlen,?_,?_⟩;{show(M.cloned h.Guests g.toNat a).all M.guestOk=true;unfold M.cloned;rw[c.live.at_];exact aUy (aUy k.all (okx _ aUe)) (okx _ bCa)}
 · show M.alone (M.slots (M.cloned h.Guests g.toNat a))=true
   rw[aMr];intro i hi s hs hw;rw[hlen]at hi;by_cases eg:i=g.toNat
   {rw[eg,c.at_g]at hs;obtain⟨t,_,rfl⟩:=List.mem_map.1 (show s∈x.Pages.map M.keep from hs);cases hw};{by_cases ea:i=a;{rw[ea,c.at_a]at hs;obtain⟨t,_,rfl⟩:=List.mem_map.1 (show s∈x.Pages.map M.fresh from hs);cases hw};{rw[c.at_k hi eg ea]at hs;have h1:=aMr.1 k.alone i (by omega) s hs hw;have h2:=bDc (gs:=h.Guests) (f:=s.Frame) (i:=i) (j:=g.toNat) (by omega) (by omega) eg;have hp:0<M.many (h.Guests.getD i default).Pages s.Frame:=bBi.2 ⟨s,hs,rfl⟩;rw[c.live.at_]at h2;rw[c.many];omega}}
theorem Cln.small(c:Cln h g x a)(hs:SmallH h):SmallH ⟨h.Words,M.cloned h.Guests g.toNat a⟩:=by have h3:=c.live.ok.three;have sm:∀f:DSlot->DSlot,SmallG (M.mapG f x):=λf=>⟨c.live.small.c,by show(x.Pages.map f).length<=_;rw[List.length_map];exact c.live.small.pages,c.live.small.i,c.live.small.o⟩;refine⟨hs.words,by unfold M.cloned;rw[lS,lS];exact hs.guests,λy hy=>?_⟩;have hy:y∈M.cloned h.Guests g.toNat a:=hy;unfold M.cloned at hy;rw[c.live.at_]at hy;rcases List.mem_or_eq_of_mem_set hy with hy|rfl;{rcases List.mem_or_eq_of_mem_set hy with hy|rfl;{exact hs.all y hy};{exact sm _}};{exact sm _}
theorem mem_map{ws:List Int}{f:DSlot->DSlot}(hf:∀s,(f s).Frame=s.Frame){ps:List DSlot}(hl:ps.length=8):M.mem ws (ps.map f)=M.mem ws ps:=by refine bCq aLh aLh λb hb=>?_;rw[aSg hb,aSg hb];unfold M.word;rw[bBp (by omega),hf]
theorem Cln.free(c:Cln h g x a):M.hostFree ⟨h.Words,M.cloned h.Guests g.toNat a⟩=M.hostFree h:=by have h3:=c.live.ok.three;have:=c.live.lo;have:=c.live.hi;unfold M.hostFree;rw[c.hostOk,nI.2 c.live.ok,cTq,cTq,wO,wO];congr 1;refine List.filter_congr λf _=>?_;rw[decide_eq_decide];show M.many (M.slots (M.cloned h.Guests g.toNat a)) (f:Int)=0↔_;have:=aNt (gs:=h.Guests) (i:=g.toNat) (f:=(f:Int)) (by omega);rw[c.live.at_]at this;rw[c.many];omega
end
theorem aRx{h:DHost}{g:Int}(hs:SmallH h):SmallH (M.hostClone h g).1:=by rcases aSe (h:=h) (g:=g)with e|e;{rw[e];exact⟨by simp,by simp,by simp⟩};{obtain⟨x,a,c,e⟩:=e hs;rw[e];exact c.small hs}
section
variable {h : DHost} {g : Int} {x : DGuest}
theorem give_len:∀{qs:List Int} {ps:List DSlot},(M.give ps qs).length=ps.length
 |[],_=>rfl
 |q::qs,ps=>by show(M.give (ps.set q.toNat M.nowhere) qs).length=_;rw[give_len,lS]
theorem aXe(hs:SmallH h)(l:Live h g x){qs:List Int}:SmallH ⟨h.Words,h.Guests.set g.toNat (M.giveG x qs)⟩:=by refine⟨hs.words,by rw[lS];exact hs.guests,λy hy=>?_⟩;rcases List.mem_or_eq_of_mem_set hy with hy|rfl;{exact hs.all y hy};{exact⟨l.small.c,by show(M.give x.Pages qs).length<=_;rw[give_len];exact l.small.pages,l.small.i,l.small.o⟩}
end
theorem aKv{h:DHost}{g:Int}{qs:List Int}(hs:SmallH h):SmallH (M.hostGive h g qs).1:=by unfold M.hostGive;(cases hc:(M.there h g&&qs.all (M.inR 0 7))with|false=>exact⟨by simp,by simp,by simp⟩|true=>rw[bA]at hc;exact aXe hs (jN hs hc.1))
theorem aAz{h:DHost}(hs:SmallH h)(hk:HOk h):jJ h=some h:=by unfold jJ;rw[kT hs.words,xG hs.guests hs.all hk.all];rfl
namespace M
def clean(s:DSlot):DSlot:=⟨s.Frame,s.Write,false⟩
end M
theorem aJc{ps:List DSlot}:(ps.map M.keep).map M.clean=ps.map M.fresh:=by rw[List.map_map];rfl
theorem aRb{ps:List DSlot}(h:ps.length<=1048576):jH ps=some (ps.map M.keep):=by
 unfold jH;rw[pK h,oB]
 have key:=fU (n:=ps.length) (step:=gD ps) (λk=>(up M.keep k ps,(k:Int))) (λ_=>true) (JO.go (ps.map M.keep)) (JO.go (ps.map M.keep)) (λk hk _=>by
  have hl:=yV (f:=M.keep) (k:=k) (xs:=ps);have hp:=aDq (f:=M.keep) hk;simp only[gD,iT];rw[dT (p:=(k:Int)<_) (by omega),cTq,aD ⟨by omega,by omega⟩,aT (by omega) (by omega),aIb hk,cTq,<-hp];rfl) (λ_=>by
  simp only[gD];rw[dF (by omega),cFq,aDb (Nat.le_refl _)])
 rw[Bool.cond_self]at key;have e:up M.keep 0 ps=ps:=yW;rw[e]at key;show Option.bind (Option.bind (iter (gD ps) (ps,((0:Nat):Int))) LO.val) _=_;rw[key];rfl
theorem aXh{ps:List DSlot}(h:ps.length<=1048576):nP ps=some (ps.map M.clean):=by
 unfold nP;rw[pK h,oB]
 have key:=fU (n:=ps.length) (step:=iH ps) (λk=>(up M.clean k ps,(k:Int))) (λ_=>true) (JO.go (ps.map M.clean)) (JO.go (ps.map M.clean)) (λk hk _=>by
  have hl:=yV (f:=M.clean) (k:=k) (xs:=ps);have hp:=aDq (f:=M.clean) hk;simp only[iH,iT];rw[dT (p:=(k:Int)<_) (by omega),cTq,aD ⟨by omega,by omega⟩,aT (by omega) (by omega),aIb hk,cTq,<-hp];rfl) (λ_=>by
  simp only[iH];rw[dF (by omega),cFq,aDb (Nat.le_refl _)])
 rw[Bool.cond_self]at key;have e:up M.clean 0 ps=ps:=yW;rw[e]at key;show Option.bind (Option.bind (iter (iH ps) (ps,((0:Nat):Int))) LO.val) _=_;rw[key];rfl
theorem aYp{gs:List DGuest}{a:Nat}{x:DGuest}{ps:List DSlot}(ha:a<gs.length):(gs.set a x).set a ⟨((gs.set a x).getD a default).Live,((gs.set a x).getD a default).C,ps,((gs.set a x).getD a default).In,((gs.set a x).getD a default).Out⟩=gs.set a ⟨x.Live,x.C,ps,x.In,x.Out⟩:=by rw[rT ha,List.set_set]
theorem aSa{h:DHost}{g:Int}(hs:SmallH h):gW h g=some (M.hostClone h g):=by unfold gW M.hostClone;rw[zM hs,oB];(cases ht:M.there h g with|false=>rfl|true=>have l:=jN hs ht;have hk:=l.ok;have h3:=hk.three;have:=l.lo;have:=l.hi;have hr:=aHw h.Guests;have hp:=l.pages;rw[bT,cFq,aRv h3,oB,Bool.true_and];by_cases e:M.gone h.Guests=-1;{rw[dT e,dF (by simp[e])];rfl};{have gk:=aGg hk.all (i:=g.toNat) (by omega);rw[dF e,dT e,cFq,cTq,aAz hs hk,oB,aD ⟨by omega,by omega⟩,aRb (by omega),oB,aD ⟨by omega,by omega⟩,aD ⟨by omega,by omega⟩];show Option.bind (eU (h.Guests.getD g.toNat default)) _=_;rw[yR l.small gk,oB,aD ⟨by omega,by omega⟩,aD ⟨by omega,by omega⟩,oB,aXh (by rw[List.length_map];omega),oB,aD ⟨by omega,by omega⟩,aJc];exact congrArg (λl=>some ((⟨h.Words,l⟩:DHost),M.gone h.Guests,true)) (aYp (gs:=h.Guests.set g.toNat (M.mapG M.keep (h.Guests.getD g.toNat default))) (x:=h.Guests.getD g.toNat default) (by rw[lS];omega))})
theorem bFa{h:DHost}(hk:HOk h):iter (fI h) (-1,2)=some (.ret (.go (M.gone h.Guests))):=by
 have h3:=hk.three
 have st:∀(i:Nat) (a:Int),i<3->fI h (a,(i:Int))=some (.next (bif (h.Guests.getD i default).Live then a else(i:Int),(i:Int)-1)):=λi a hi=>by
  simp only[fI,iT];rw[dT (p:=(0:Int)<=(i:Int)) (by omega),cTq,aD ⟨by omega,by omega⟩];cases(h.Guests.getD i default).Live
  all_goals
   simp only[bT,bF,cTq,cFq,oB,JO.run,rZ];rw[aT (by omega) (by omega)]
 have sn:∀a:Int,fI h (a,-1)=some (.ret (.go a)):=λa=>by simp only[fI];rfl
 rw[show(2:Int)=((2:Nat):Int)from rfl,dL,st 2 _ (by omega)];simp only;rw[show((2:Nat):Int)-1=((1:Nat):Int)from rfl,dL,st 1 _ (by omega)];simp only;rw[show((1:Nat):Int)-1=((0:Nat):Int)from rfl,dL,st 0 _ (by omega)];simp only;rw[show((0:Nat):Int)-1=-1 from rfl,dL,sn];unfold M.gone;cases(h.Guests.getD 0 default).Live<;>cases(h.Guests.getD 1 default).Live<;>cases(h.Guests.getD 2 default).Live<;>rfl
section
variable {h : DHost} {g : Int} {x : DGuest}
theorem bFw(l:Live h g x):iter (gO g) (h.Guests,0)=some (.ret (.go (h.Guests.set g.toNat (M.mapG M.keep x)))):=by
 have h3:=l.ok.three;have:=l.lo;have:=l.hi;have hp:=l.pages
 have key:=fU (n:=8) (step:=gO g) (λk=>(h.Guests.set g.toNat (M.upG M.keep k x),(k:Int))) (λ_=>true) (JO.go (h.Guests.set g.toNat (M.mapG M.keep x))) (JO.go (h.Guests.set g.toNat (M.mapG M.keep x))) (λk hk _=>by
  have hl:=yV (f:=M.keep) (k:=k) (xs:=x.Pages);have hpl:(M.upG M.keep k x).Pages.length=8:=(by show(up M.keep k x.Pages).length=8;omega);have hs:=aDq (f:=M.keep) (k:=k) (xs:=x.Pages) (by omega);have ha:=aIb (f:=M.keep) (k:=k) (xs:=x.Pages) (by omega);have e1:(h.Guests.set g.toNat (M.upG M.keep k x)).getD g.toNat default=M.upG M.keep k x:=rT (by omega);simp only[gO,iT,e1];rw[dT (p:=(k:Int)<8) (by omega),cTq,aD ⟨by omega,by rw[lS];omega⟩,aD ⟨by omega,by omega⟩,aT (by omega) (by omega),cTq,List.set_set];show some (LO.next (h.Guests.set g.toNat (⟨x.Live,x.C,(up M.keep k x.Pages).set k ⟨((up M.keep k x.Pages).getD k default).Frame,false,((up M.keep k x.Pages).getD k default).Dirty⟩,x.In,x.Out⟩:DGuest),(k:Int)+1))=some (LO.next (h.Guests.set g.toNat (⟨x.Live,x.C,up M.keep (k+1) x.Pages,x.In,x.Out⟩:DGuest),((k+1:Nat):Int)));rw[ha,<-hs];rfl) (λ_=>by
  simp only[gO];rw[bFl (by omega)];rfl)
 rw[Bool.cond_self]at key;have e0:h.Guests.set g.toNat (M.upG M.keep 0 x)=h.Guests:=(by rw[bCb,<-l.at_];exact qC);rw[e0]at key;exact key
theorem bEn{ps:List DSlot}(hp:ps.length=8):iter fK (ps,0)=some (.ret (.go (ps.map M.clean))):=by
 have key:=fU (n:=8) (step:=fK) (λk=>(up M.clean k ps,(k:Int))) (λ_=>true) (JO.go (ps.map M.clean)) (JO.go (ps.map M.clean)) (λk hk _=>by
  have hl:=yV (f:=M.clean) (k:=k) (xs:=ps);have hs:=aDq (f:=M.clean) (k:=k) (xs:=ps) (by omega);simp only[fK,iT];rw[dT (p:=(k:Int)<8) (by omega),cTq,aD ⟨by omega,by omega⟩,aT (by omega) (by omega),aIb (by omega),cTq,<-hs];rfl) (λ_=>by
  simp only[fK];rw[aDb (by omega)];rfl)
 rw[Bool.cond_self]at key;have e:up M.clean 0 ps=ps:=yW;rw[e]at key;exact key
end
theorem aRq{h:DHost}{g:Int}(hs:SmallH h):kD h g=some (M.hostClone h g):=by unfold kD M.hostClone;rw[aJr hs,oB];(cases ht:M.there h g with|false=>rfl|true=>have l:=jN hs ht;have hk:=l.ok;have h3:=hk.three;have:=l.lo;have:=l.hi;have hr:=aHw h.Guests;have hp:=l.pages;rw[bT,cFq,bFa hk,Bool.true_and];simp only[oB,LO.val,JO.run,sH];by_cases e:M.gone h.Guests=-1;{rw[dT (p:=M.gone h.Guests<0) (by omega),dF (by simp[e])];rfl};{have gk:=aGg hk.all (i:=g.toNat) (by omega);have gk2:M.guestOk (M.mapG M.keep (h.Guests.getD g.toNat default))=true:=(aIz (x:=M.mapG M.keep _) l.live).2 ⟨l.core,by show(List.map _ _).length=8;rw[List.length_map];exact hp,aXt aUe l.slots,l.inn,l.out⟩;have sg:SmallG (M.mapG M.keep (h.Guests.getD g.toNat default)):=⟨l.small.c,by show(List.map _ _).length<=_;rw[List.length_map];exact l.small.pages,l.small.i,l.small.o⟩;rw[dF (p:=M.gone h.Guests<0) (by omega),dT e,cFq,cTq,aOf hs hk.all,oB,bFw l];simp only[oB,LO.val,JO.run,sK];rw[aD ⟨by omega,by rw[lS];omega⟩];have e1:(h.Guests.set g.toNat (M.mapG M.keep (h.Guests.getD g.toNat default))).getD g.toNat default=M.mapG M.keep (h.Guests.getD g.toNat default):=rT (by omega);simp only[e1];show Option.bind (gV (M.mapG M.keep (h.Guests.getD g.toNat default))) _=_;rw[aUg sg gk2,oB];show Option.bind (Option.bind (iter fK ((h.Guests.getD g.toNat default).Pages.map M.keep,0)) LO.val) _=_;rw[bEn (by rw[List.length_map];exact hp),aJc];simp only[oB,LO.val,JO.run,sJ];rw[aD ⟨by omega,by rw[lS];omega⟩];rfl})
noncomputable def oE (_:DSlot)(k:Int):DSlot×Int:=(⟨k,decide (Int.tmod (k+1) 3=0),decide (Int.tmod (k+1+1) 3=0)⟩,k+1+1+1)
theorem aGk(x:DSlot)(k:Int):k<=(oE x k).2/\(oE x k).2<=k+3:=by simp only[oE];omega
theorem jX{z:Int}(h0:0<=z)(h1:z<=1152921504606846976):w64 z=z:=aT (by omega) (by omega)
theorem aPn{xs:List DSlot}{k:Int}(h:xs.length<=1048576)(h0:0<=k)(h1:k<=4503599627370496):jU xs k=some ((dG oE xs k).1,(dG oE xs k).2):=by have key:=aMc (m:=oE) (C:=3) (B:=9007199254740992) (step:=gM) (xs:=xs) (k:=k) (λx _ k=>aGk x k) h0 (by omega) (by omega) (λzs i q hz hi _ hq hb=>by have e1:(i:Int)<(zs.length:Int):=(by omega);simp only[gM,dT e1,cTq];rw[aD ⟨by omega,e1⟩,iT,jX (z:=q+1) (by omega) (by omega),jX (z:=q+1+1) (by omega) (by omega),jX (z:=q+1+1+1) (by omega) (by omega),jX (z:=(i:Int)+1) (by omega) (by omega)];rw[aD ⟨by omega,e1⟩,aD ⟨by omega,e1⟩];rfl) (λzs q _=>by simp only[gM];rw[dF (by omega),cFq]);unfold jU;rw[key];rfl
theorem aOb{xs:List DSlot}{k:Int}(h:xs.length<=1048576)(h0:0<=k)(h1:k<=4503599627370496):mN (dG oE xs k).1 k=some (dG oE xs k).2:=by have key:=aLw (m:=oE) (C:=3) (B:=9007199254740992) (step:=kF) (xs:=xs) (k:=k) (λx _ k=>aGk x k) h0 (by omega) (by omega) (λzs i x q hz hi _ hq hb hg=>by have e1:(i:Int)<(zs.length:Int):=(by omega);simp only[kF,dT e1,cTq];rw[aD ⟨by omega,e1⟩,iT,hg,jX (z:=q+1) (by omega) (by omega),jX (z:=q+1+1) (by omega) (by omega),jX (z:=q+1+1+1) (by omega) (by omega),jX (z:=(i:Int)+1) (by omega) (by omega)];rw[aD ⟨by omega,e1⟩,aD ⟨by omega,e1⟩];simp[oE]) (λzs q _=>by simp only[kF];rw[dF (by omega),cFq]);unfold mN;rw[key];rfl
noncomputable def jB (g:DGuest)(k:Int):DGuest×Int:=
 let q:=k+1+(g.C.Regs.length:Int);let p:=dG oE g.Pages (q+1+1+1+1+1+1+1+1+1+1+1+1)
 (⟨decide (Int.tmod k 3=0),⟨fM (k+1) g.C.Regs.length,q,q+1,q+1+1,q+1+1+1,decide (Int.tmod (q+1+1+1+1) 3=0),q+1+1+1+1+1,q+1+1+1+1+1+1,q+1+1+1+1+1+1+1,
  decide (Int.tmod (q+1+1+1+1+1+1+1+1) 3=0),decide (Int.tmod (q+1+1+1+1+1+1+1+1+1) 3=0),decide (Int.tmod (q+1+1+1+1+1+1+1+1+1+1) 3=0),decide (Int.tmod (q+1+1+1+1+1+1+1+1+1+1+1) 3=0)⟩,
  p.1,fM p.2 g.In.length,fM (p.2+g.In.length) g.Out.length⟩,p.2+g.In.length+g.Out.length)
theorem aDs{xs:List DSlot}{k:Int}(h:xs.length<=1048576):k<=(dG oE xs k).2/\(dG oE xs k).2<=k+3145728:=by have:=aGa (m:=oE) (C:=3) (xs:=xs) (k:=k) λx _ k=>aGk x k;omega
theorem aBm{g:DGuest}(h:SmallG g)(k:Int):k<=(jB g k).2/\(jB g k).2<=k+8388608:=by have:=h.c.regs;have:=h.i;have:=h.o;have:=aDs (k:=k+1+(g.C.Regs.length:Int)+1+1+1+1+1+1+1+1+1+1+1+1) h.pages;simp only[jB];omega
theorem aMw{xs:List DGuest}{k:Int}(h:xs.length<=1048576)(hs:∀g∈xs,SmallG g)(h0:0<=k)(h1:k<=4503599627370496-8796093022208-8388608):jA xs k=some ((dG jB xs k).1,(dG jB xs k).2):=by have key:=aMc (m:=jB) (C:=8388608) (B:=4503599627370496-8388608) (step:=fW) (xs:=xs) (k:=k) (λx hx k=>aBm (hs x hx) k) h0 (by omega) (by omega) (λzs i q hz hi hm hq hb=>by have hg:=hs _ hm;generalize hgg:zs.getD i default=g at hg;have:=hg.c.regs;have:=hg.pages;have:=hg.i;have:=hg.o;have e1:(i:Int)<(zs.length:Int):=(by omega);have g0:(0:Int)<=(i:Int)/\(i:Int)<(zs.length:Int):=⟨by omega,e1⟩;have hp:=aDs (k:=q+1+(g.C.Regs.length:Int)+1+1+1+1+1+1+1+1+1+1+1+1) hg.pages;simp only[fW,dT e1,cTq,iT,hgg,aD g0];rw[jX (z:=q+1) (by omega) (by omega),hY (by omega) (by omega) (by omega),oB];simp only[];generalize hr:q+1+(g.C.Regs.length:Int)=r at hp;rw[aD (by rw[dB]),jX (z:=r+1) (by omega) (by omega),jX (z:=r+1+1) (by omega) (by omega),jX (z:=r+1+1+1) (by omega) (by omega),jX (z:=r+1+1+1+1) (by omega) (by omega),jX (z:=r+1+1+1+1+1) (by omega) (by omega),jX (z:=r+1+1+1+1+1+1) (by omega) (by omega),jX (z:=r+1+1+1+1+1+1+1) (by omega) (by omega),jX (z:=r+1+1+1+1+1+1+1+1) (by omega) (by omega),jX (z:=r+1+1+1+1+1+1+1+1+1) (by omega) (by omega),jX (z:=r+1+1+1+1+1+1+1+1+1+1) (by omega) (by omega),jX (z:=r+1+1+1+1+1+1+1+1+1+1+1) (by omega) (by omega),jX (z:=r+1+1+1+1+1+1+1+1+1+1+1+1) (by omega) (by omega),jX (z:=(i:Int)+1) (by omega) (by omega)];rw[aPn hg.pages (by omega) (by omega),oB,aD (by rw[tL]),hY (by omega) (by simp only;omega) (by simp only;omega),oB,aD (by rw[dB]),hY (by omega) (by simp only;omega) (by simp only;omega),oB,aD (by rw[dB])];simp only[jB,hr]) (λzs q _=>by simp only[fW];rw[dF (by omega),cFq]);unfold jA;rw[key];rfl
theorem aMy{xs:List DGuest}{k:Int}(h:xs.length<=1048576)(hs:∀g∈xs,SmallG g)(h0:0<=k)(h1:k<=4503599627370496-8796093022208-8388608):lI (dG jB xs k).1 k=some (dG jB xs k).2:=by have key:=aLw (m:=jB) (C:=8388608) (B:=4503599627370496-8388608) (step:=jM) (xs:=xs) (k:=k) (λx hx k=>aBm (hs x hx) k) h0 (by omega) (by omega) (λzs i g q hz hi hm hq hb hgg=>by have hg:=hs _ hm;have:=hg.c.regs;have:=hg.pages;have:=hg.i;have:=hg.o;have e1:(i:Int)<(zs.length:Int):=(by omega);have g0:(0:Int)<=(i:Int)/\(i:Int)<(zs.length:Int):=⟨by omega,e1⟩;have hp:=aDs (k:=q+1+(g.C.Regs.length:Int)+1+1+1+1+1+1+1+1+1+1+1+1) hg.pages;unfold jM;rw[dT e1,cTq,aD g0,iT,hgg];simp(disch:=omega) only[jB,jX,beq_self_eq_true,decide_true,bT,cFq,aFo,oB,dF,aD g0,aOb hg.pages]) (λzs q _=>by simp only[jM];rw[dF (by omega),cFq]);unfold lI;rw[key];rfl
noncomputable def lK (h:DHost)(k:Int):DHost×Int:=(⟨fM k h.Words.length,(dG jB h.Guests (k+h.Words.length)).1⟩,(dG jB h.Guests (k+h.Words.length)).2)
theorem aAo{xs:List DGuest}{k:Int}(h:xs.length<=1048576)(hs:∀g∈xs,SmallG g):k<=(dG jB xs k).2/\(dG jB xs k).2<=k+8796093022208:=by have:=aGa (m:=jB) (C:=8388608) (xs:=xs) (k:=k) λx hx k=>aBm (hs x hx) k;omega
theorem nK{h:DHost}(hs:SmallH h){k:Int}(h0:0<=k)(h1:k<=1000000000):dS h k=some ((lK h k).1.Words,(lK h k).1.Guests,(lK h k).2):=by have:=hs.words;unfold dS;rw[hY (by omega) h0 (by omega),oB,aD (by rw[dB]),aMw hs.guests hs.all (by simp only;omega) (by simp only;omega),oB,aD (by rw[tL])];rfl
theorem aRp{h:DHost}(hs:SmallH h){k:Int}(h0:0<=k)(h1:k<=1000000000):dO (lK h k).1 k=some (lK h k).2:=by have:=hs.words;have:=aAo (k:=k+h.Words.length) hs.guests hs.all;unfold dO;simp only[lK];rw[aFo (by omega) h0 (by omega),oB,dF (by omega),cFq,aMy hs.guests hs.all (by omega) (by omega),oB,dF (by omega),cFq]
theorem xU{h:DHost}(hs:SmallH h){k:Int}(h0:0<=k)(h1:k<=1000000000):dO ⟨(lK h k).1.Words,(lK h k).1.Guests⟩ k=some (lK h k).2:=aRp hs h0 h1
theorem vU{h:DHost}{k:Int}:(lK h k).1.Words.length=h.Words.length/\(lK h k).1.Guests.length=h.Guests.length:=by simp[lK,dB,tL]
theorem qX{h:DHost}(hs:SmallH h){k:Int}(h0:0<=k):0<=(lK h k).2:=by have:=aAo (k:=k+h.Words.length) hs.guests hs.all;simp only[lK];omega
theorem aKg{h:DHost}{g:Int}(hf:FitH h):gG h g=some true:=by unfold gG;obtain⟨v,hv,hs⟩:=aBt hf (left:=1048576) (by omega) (by omega);rw[hv];simp only[oB];rcases hs with h0|⟨h0,-,hs⟩;{rw[aWg h0];rfl};{have hz:=aRx (g:=g) hs;have hp:=qX hs (k:=1) (by omega);have hp2:=qX hz (k:=1) (by omega);rw[dF (by omega),cFq];simp only[aCt hs,aSa hs,aRq hs,oB,rJ hs,rJ hz,decide_true,bT,cFq,beq_self_eq_true,nK hs (k:=1) (by omega) (by omega),nK hz (k:=1) (by omega) (by omega),vU,xU hz (k:=1) (by omega) (by omega)];rw[aD True.intro,aD True.intro,dF (by omega),cFq,aD True.intro,aD True.intro,dF (by omega)];rfl}
theorem bAz{T:Type}{xs ys:List T}{o k:Nat}(h:ys.length=8)(hk:8<=k):over xs o k ys=over xs o 8 ys:=by simp only[over,h];rw[Nat.min_eq_right hk,Nat.min_self]
theorem bBv{T:Type}[Inhabited T]{xs:List T}{u:Nat}:(xs.drop u).getD 0 default=xs.getD u default:=by simp[List.getD]
theorem aXy{T:Type}{xs:List T}{u n:Nat}(h:n=(xs.drop u).length):List.take (Int.toNat (n:Int)-Int.toNat 1) (List.drop (Int.toNat 1) (xs.drop u))=xs.drop (u+1):=by rw[show Int.toNat 1=1 from rfl,List.drop_drop,iT];apply List.take_of_length_le;rw[h];simp;omega
theorem aLm{mem:List Int}{p:Nat}(h:p<8):List.take (Int.toNat (w64 ((w64 ((p:Int)+1))*8))-Int.toNat (w64 ((p:Int)*8))) (List.drop (Int.toNat (w64 ((p:Int)*8))) mem)=M.page mem p:=by rw[aT (z:=(p:Int)+1) (by omega) (by omega),aT (z:=((p:Int)+1)*8) (by omega) (by omega),aT (z:=(p:Int)*8) (by omega) (by omega)];rw[show Int.toNat (((p:Int)+1)*8)-Int.toNat ((p:Int)*8)=8 by omega,show Int.toNat ((p:Int)*8)=p*8 by omega];rfl
theorem aVf:SmallG M.noGuest:=⟨⟨by decide⟩,by decide,by decide,by decide⟩
theorem slots_set:∀{gs:List DGuest} {i:Nat},(M.slots (gs.set i M.noGuest)).Sublist (M.slots gs)
 |[],i=>by simp[M.slots]
 |g::gs,0=>by simp only[List.set_cons_zero,M.slots,List.flatMap_cons,M.noGuest,List.nil_append];exact List.sublist_append_right _ _
 |g::gs,i+1=>by simp only[List.set_cons_succ,M.slots,List.flatMap_cons];exact List.Sublist.append (List.Sublist.refl _) slots_set
theorem bBw{gs:List DGuest}{i:Nat}{f:Int}:M.many (M.slots (gs.set i M.noGuest)) f<=M.many (M.slots gs) f:=List.Sublist.countP_le slots_set
theorem aVw:M.guestOk M.noGuest=true:=by unfold M.guestOk;rw[show M.noGuest.Live=false from rfl,cFq,dT rfl]
theorem bEg{h:DHost}{i:Nat}(hk:HOk h):HOk ⟨h.Words,h.Guests.set i M.noGuest⟩:=by refine⟨hk.len,hk.words,by simpa using hk.three,?_,?_⟩;{rw[List.all_eq_true];intro x hx;rcases List.mem_or_eq_of_mem_set hx with hx|rfl;{exact List.all_eq_true.1 hk.all x hx};{exact aVw}};{have ha:=hk.alone;simp only[M.alone,List.all_eq_true,Bool.or_eq_true,Bool.not_eq_true',decide_eq_true_eq]at ha ⊢;intro s hs;rcases ha s (slots_set.subset hs)with h1|h1;{exact .inl h1};{exact .inr (Nat.le_trans bBw h1)}}
theorem aJe{h:DHost}{g:Int}(hs:SmallH h):SmallH (M.hostDrop h g).1:=by unfold M.hostDrop;(cases M.there h g with|false=>exact⟨by simp,by simp,by simp⟩|true=>refine⟨hs.words,by simpa using hs.guests,λx hx=>?_⟩;rcases List.mem_or_eq_of_mem_set hx with hx|rfl;{exact hs.all x hx};{exact aVf})
theorem aFw{h:DHost}{g:Int}(ht:M.there h g=true):M.hostOk (M.hostDrop h g).1=true:=by have e:(M.hostDrop h g).1=⟨h.Words,h.Guests.set g.toNat M.noGuest⟩:=(by unfold M.hostDrop;rw[ht];rfl);rw[e];exact nI.2 (bEg (aBy.1 ht).1)
theorem bDu{mem:List Int}{p q:Nat}(hp:M.zeros (M.page mem p)=false)(hpq:p<q):M.used mem p<M.used mem q:=by have:=aBk (mem:=mem) (show p+1<=q by omega);have e:M.used mem (p+1)=M.used mem p+(bif M.zeros (M.page mem p)then 0 else 1):=rfl;rw[hp,cFq]at e;omega
def M.fr(mem:List Int)(ss:List DSlot)(p:Nat):Int:=(M.free ss).getD (M.used mem p) default
theorem aVj{mem:List Int}{ss:List DSlot}{p:Nat}(hp:M.zeros (M.page mem p)=false):M.slotFor mem (M.free ss) p=⟨M.fr mem ss p,true,false⟩:=by unfold M.slotFor;rw[hp];rfl
theorem aXv{mem:List Int}{ss:List DSlot}{p:Nat}(hp:M.zeros (M.page mem p)=true):M.slotFor mem (M.free ss) p=⟨-1,false,false⟩:=by unfold M.slotFor;rw[hp];rfl
section
variable {mem ws : List Int} {ss : List DSlot} (hu : M.used mem 8 ≤ (M.free ss).length)
include hu
theorem bIr{p:Nat}(hp8:p<8)(hp:M.zeros (M.page mem p)=false):M.used mem p<(M.free ss).length:=by have:=bDu hp hp8;omega
theorem bCj{p:Nat}(hp8:p<8)(hp:M.zeros (M.page mem p)=false):0<=M.fr mem ss p/\M.fr mem ss p<20:=uV (bIr hu hp8 hp)
end
namespace M
def backS(s:DSlot):DSlot:=⟨s.Frame,s.Write,s.Write⟩
noncomputable def backed (h:DHost)(b:DBare)(a:Nat):DHost:=⟨wordsFor b.Mem (free (slots h.Guests)) h.Words 8,h.Guests.set a ⟨true,b.C,(slotsFor b.Mem (free (slots h.Guests)) 8).map backS,b.In,b.Out⟩⟩
def left(h:DHost)(g:Int):DHost:=⟨h.Words,h.Guests.set g.toNat noGuest⟩
noncomputable def hostBack (h:DHost)(g:Int)(b:DBare):DHost×Bool:=bif there h g&&bareOk b&&decide (used b.Mem 8<=(free (slots (left h g).Guests)).length)then(backed (left h g) b g.toNat,true)else(⟨[],[]⟩,false)
end M
structure Bk (h : DHost) (b : DBare) (a : Nat) : Prop where
 hs:SmallH h
 hb:SmallB b
 ok:HOk h
 bok:M.bareOk b=true
 lt:a<3
 none:h.Guests.getD a default=M.noGuest
 enough:M.used b.Mem 8<=(M.free (M.slots h.Guests)).length
section
variable {h : DHost} {b : DBare} {a0 : Nat} (t : Bk h b a0)
include t
theorem bBg:(M.backed h b a0).Words.length=160:=rU t.ok.len (by omega) t.enough
theorem bCp:SmallH (M.backed h b a0):=by have h3:=t.hs.guests;refine⟨by rw[bBg t];omega,by simpa[M.backed]using h3,λg hg=>?_⟩;rcases List.mem_or_eq_of_mem_set hg with hg|rfl;{exact t.hs.all g hg};{exact⟨t.hb.c,by simp[M.slotsFor],t.hb.i,t.hb.o⟩}
end
theorem bEr{h:DHost}{g:Int}{b:DBare}(hs:SmallH h)(hb:SmallB b)(ht:(M.hostBack h g b).2=true):M.there h g=true/\Bk (M.left h g) b g.toNat/\M.hostBack h g b=(M.backed (M.left h g) b g.toNat,true):=by unfold M.hostBack at ht ⊢;(cases hc:(M.there h g&&M.bareOk b&&decide (M.used b.Mem 8<=(M.free (M.slots (M.left h g).Guests)).length))with|false=>rw[hc]at ht;cases ht|true=>simp only[bA,decide_eq_true_eq]at hc;obtain⟨⟨th,bo⟩,en⟩:=hc;have l:=jN hs th;have h3:=l.ok.three;have:=l.lo;have:=l.hi;have e:(M.hostDrop h g).1=M.left h g:=(by unfold M.hostDrop;rw[th];rfl);have dok:M.hostOk (M.left h g)=true:=(by rw[<-e];exact aFw th);have dsm:SmallH (M.left h g):=(by rw[<-e];exact aJe hs);exact⟨th,⟨dsm,hb,nI.1 dok,bo,by omega,rT (by omega),en⟩,rfl⟩)
theorem aWs{h:DHost}{g:Int}{b:DBare}(hs:SmallH h)(hb:SmallB b):SmallH (M.hostBack h g b).1:=by
 (cases e:(M.hostBack h g b).2 with|true=>obtain⟨-,t,e⟩:=bEr hs hb e;rw[e];exact bCp t|false=>have:(M.hostBack h g b).1=⟨[],[]⟩:=(by unfold M.hostBack at e ⊢;(cases hc:(M.there h g&&M.bareOk b&&decide (M.used b.Mem 8<=(M.free (M.slots (M.left h g).Guests)).length))with|false=>rfl|true=>rw[hc]at e;cases e));rw[this];exact⟨by simp,by simp,by simp⟩)
namespace M
def dirtyS(s:DSlot):DSlot:=⟨s.Frame,s.Write,!decide (s.Frame=-1)⟩
end M
theorem aWp{ps:List DSlot}(h:ps.length<=1048576):kM ps=some (ps.map M.dirtyS):=by
 unfold kM;rw[pK h,oB]
 have key:=fU (n:=ps.length) (step:=iJ ps) (λk=>(up M.dirtyS k ps,(k:Int))) (λ_=>true) (JO.go (ps.map M.dirtyS)) (JO.go (ps.map M.dirtyS)) (λk hk _=>by
  have hl:=yV (f:=M.dirtyS) (k:=k) (xs:=ps);have hp:=aDq (f:=M.dirtyS) hk;simp only[iJ,iT];rw[dT (p:=(k:Int)<_) (by omega),cTq,aD ⟨by omega,by omega⟩,aD ⟨by omega,by omega⟩,aT (by omega) (by omega),aIb hk,cTq,<-hp];rfl) (λ_=>by
  simp only[iJ];rw[dF (by omega),cFq,aDb (Nat.le_refl _)])
 rw[Bool.cond_self]at key;have e:up M.dirtyS 0 ps=ps:=yW;rw[e]at key;show Option.bind (Option.bind (iter (iJ ps) (ps,((0:Nat):Int))) LO.val) _=_;rw[key];rfl
theorem aWc{mem:List Int}{ss:List DSlot}(hu:M.used mem 8<=(M.free ss).length):(M.slotsFor mem (M.free ss) 8).map M.dirtyS=(M.slotsFor mem (M.free ss) 8).map M.backS:=by refine List.map_congr_left λs hs=>?_;obtain⟨p,hp,rfl⟩:=List.mem_map.1 hs;have hp:=List.mem_range.1 hp;(cases hz:M.zeros (M.page mem p)with|true=>rw[aXv hz];rfl|false=>have:=bCj hu hp hz;rw[aVj hz];unfold M.dirtyS M.backS;rw[dF (by show M.fr mem ss p≠-1;omega)];rfl)
section
variable {h : DHost} {g : Int}
theorem aUo(th:M.there h g=true):(M.hostDrop h g).1=M.left h g:=by unfold M.hostDrop;rw[th];rfl
theorem aUk(th:M.there h g=true):HOk (M.left h g):=by rw[<-aUo th];exact nI.1 (aFw th)
theorem aIn(hs:SmallH h)(th:M.there h g=true):SmallH (M.left h g):=by rw[<-aUo th];exact aJe hs
end
theorem aWx{h:DHost}{g:Int}{b:DBare}(hs:SmallH h)(hb:SmallB b):iQ h g b=some (M.hostBack h g b):=by unfold iQ M.hostBack;rw[zM hs,oB];(cases ht:M.there h g with|false=>rfl|true=>have l:=jN hs ht;have hk:=l.ok;have h3:=hk.three;have:=l.lo;have:=l.hi;have lk:=aUk ht;have ls:=aIn hs ht;have l3:=lk.three;rw[bT,cFq,bCh hb,oB,Bool.true_and];(cases hbk:M.bareOk b with|false=>rfl|true=>rw[bT,cFq,Bool.true_and];show Option.bind (fP h.Guests g M.noGuest) _=_;rw[aFs hs hk l.lo l.hi,oB];show Option.bind (fH (M.left h g) g b) _=_;rw[aLg ls lk hb hbk l.lo l.hi,oB];by_cases e:M.used b.Mem 8<=(M.free (M.slots (M.left h g).Guests)).length;{rw[dT e];have e1:(M.placed (M.left h g) b g.toNat).Guests.getD g.toNat default=⟨true,b.C,M.slotsFor b.Mem (M.free (M.slots (M.left h g).Guests)) 8,b.In,b.Out⟩:=rT (by omega);have gl:(M.placed (M.left h g) b g.toNat).Guests.length=3:=(by show(List.set _ _ _).length=3;rw[lS];exact l3);simp only[cTq,bT,cFq,e1];rw[aD ⟨by omega,by omega⟩,aWp (by simp[M.slotsFor]),oB,aD ⟨by omega,by omega⟩,aWc e];show some ((⟨M.wordsFor b.Mem (M.free (M.slots (M.left h g).Guests)) (M.left h g).Words 8,((M.left h g).Guests.set g.toNat _).set g.toNat _⟩:DHost),true)=_;rw[List.set_set];rfl};{rw[dF e];rfl}))
theorem aWf{b:DBare}{s:List Int×List Int×List DSlot×Int}{p:Nat}(hp:p<8)(hs:s.2.2.2=(p:Int))(hm:b.Mem.length=64):iter (gH b s) (true,0)=some (.ret (.go (M.zeros (M.page b.Mem p)))):=by
 have hl:=aXi (xs:=b.Mem) (p:=p) (by omega)
 have key:=fU (n:=8) (step:=gH b s) (λk=>((List.range k).all λj=>decide ((M.page b.Mem p).getD j default=0),(k:Int))) (λ_=>true) (JO.go (M.zeros (M.page b.Mem p))) (.go true) (λk hk _=>by
  simp only[gH,hs,aLm hp,iT];rw[dT (p:=(k:Int)<8) (by omega),cTq];have er:((List.range (k+1)).all λj=>decide ((M.page b.Mem p).getD j default=0))=(((List.range k).all λj=>decide ((M.page b.Mem p).getD j default=0))&&decide ((M.page b.Mem p).getD k default=0)):=(by rw[List.range_succ,List.all_append];simp);rw[er];cases((List.range k).all λj=>decide ((M.page b.Mem p).getD j default=0))with
  |true=>rw[cTq,aD ⟨by omega,by omega⟩];simp only[oB,JO.run,nO,Bool.true_and,cTq];rw[aT (by omega) (by omega)];rfl
  |false=>simp only[cFq,oB,JO.run,nO,Bool.false_and,cTq];rw[aT (by omega) (by omega)];rfl) (λ_=>by
  simp only[gH];rfl)
 rw[show(List.range 8).all (λ_=>true)=true by simp,cTq]at key;exact key
def qY(mem free:List Int)(n:Nat):List DSlot:=(M.slotsFor mem free n).map M.backS
theorem aRu{b:DBare}{ws:List Int}{ss:List DSlot}(hw:ws.length=160)(hm:b.Mem.length=64):
 iter (iL b) (ws,M.free ss,[],0)=some (.ret (bif decide (M.used b.Mem 8<=(M.free ss).length)then .go (M.wordsFor b.Mem (M.free ss) ws 8,qY b.Mem (M.free ss) 8)else .out (⟨[],[]⟩,false))):=by
 have hfl:=aOc (ss:=ss)
 have key:=fU (n:=8) (step:=iL b) (λp=>(M.wordsFor b.Mem (M.free ss) ws p,(M.free ss).drop (M.used b.Mem p),qY b.Mem (M.free ss) p,(p:Int))) (λp=>M.zeros (M.page b.Mem p)||decide (M.used b.Mem p<(M.free ss).length))
  (JO.go (M.wordsFor b.Mem (M.free ss) ws 8,qY b.Mem (M.free ss) 8)) (.out (⟨[],[]⟩,false)) (λp hp ho=>by
  have hu:M.used b.Mem p<=(M.free ss).length:=(by have:((List.range p).all λp=>M.zeros (M.page b.Mem p)||decide (M.used b.Mem p<(M.free ss).length))=true:=(by simp only[List.all_eq_true,List.mem_range];exact ho);rw[uT,decide_eq_true_eq]at this;exact this);have hlen:=rU (mem:=b.Mem) (ss:=ss) hw (p:=p) (by omega) hu;have hpl:=aXi (xs:=b.Mem) (p:=p) (by omega);have hsl:(qY b.Mem (M.free ss) p).length=p:=(by simp[qY,M.slotsFor]);have es:qY b.Mem (M.free ss) (p+1)=qY b.Mem (M.free ss) p++[M.backS (M.slotFor b.Mem (M.free ss) p)]:=(by simp[qY,M.slotsFor,List.range_succ]);have ew:M.wordsFor b.Mem (M.free ss) ws (p+1)=(bif M.zeros (M.page b.Mem p)then M.wordsFor b.Mem (M.free ss) ws p else over (M.wordsFor b.Mem (M.free ss) ws p) (((M.free ss).getD (M.used b.Mem p) default).toNat*8) 8 (M.page b.Mem p)):=rfl;have eu:M.used b.Mem (p+1)=M.used b.Mem p+(bif M.zeros (M.page b.Mem p)then 0 else 1):=rfl;have b1:w64 ((p:Int)*8)=(p:Int)*8:=aT (by omega) (by omega);have b2:w64 ((w64 ((p:Int)+1))*8)=((p:Int)+1)*8:=(by rw[aT (z:=(p:Int)+1) (by omega) (by omega),aT (by omega) (by omega)]);simp only[iL];rw[dT (p:=(p:Int)<8) (by omega),cTq,aD ⟨by omega,by omega,by omega⟩,aWf hp rfl hm];simp only[oB,LO.val,JO.run,tQ,aLm hp];cases hz:M.zeros (M.page b.Mem p)with
  |true=>have:(⟨-1,false,false⟩:DSlot)=M.backS (M.slotFor b.Mem (M.free ss) p):=(by unfold M.slotFor;rw[hz];rfl);rw[hz,cTq]at ew eu;rw[cTq,aD ⟨by simp;omega,by simp;omega⟩];simp only[oB,JO.run,oH,Bool.true_or,cTq];rw[aT (by omega) (by omega),this,<-es,ew,eu];rfl
  |false=>
   have:(⟨(M.free ss).getD (M.used b.Mem p) default,true,true⟩:DSlot)=M.backS (M.slotFor b.Mem (M.free ss) p):=(by unfold M.slotFor;rw[hz];rfl);rw[hz,cFq]at ew eu;rw[cFq,Bool.false_or];by_cases e:M.used b.Mem p<(M.free ss).length;{have hr:=uV (ss:=ss) (i:=M.used b.Mem p) e;have hdl:((M.free ss).drop (M.used b.Mem p)).length=(M.free ss).length-M.used b.Mem p:=(by simp);rw[dF (p:=(((List.drop (M.used b.Mem p) (M.free ss)).length:Nat):Int)=0) (by omega),cFq,show Int.toNat (0:Int)=0 from rfl,bBv];rw[aT (z:=(M.free ss).getD (M.used b.Mem p) default*8) (by omega) (by omega),aD ⟨by omega,by omega⟩,aD ⟨by omega,by omega,by omega⟩,aD ⟨by omega,by omega⟩,aD ⟨by simp;omega,by simp;omega⟩,aD ⟨by omega,by omega,by omega⟩];simp only[oB,JO.run,oH];rw[aT (by omega) (by omega),this,<-es,aXy rfl,bAz hpl (by omega),dT e,ew,eu];rw[show Int.toNat ((M.free ss).getD (M.used b.Mem p) default*8)=((M.free ss).getD (M.used b.Mem p) default).toNat*8 by omega];rfl}
   · rw[dF e,dT (p:=(((List.drop (M.used b.Mem p) (M.free ss)).length:Nat):Int)=0) (by simp;omega)];rfl) (λ_=>by
  simp only[iL];rfl)
 rw[uT]at key;exact key
theorem aWw{h:DHost}{g:Int}{b:DBare}(hs:SmallH h)(hb:SmallB b):lB h g b=some (M.hostBack h g b):=by unfold lB M.hostBack;rw[aJr hs,oB];(cases ht:M.there h g with|false=>rfl|true=>have l:=jN hs ht;have hk:=l.ok;have h3:=hk.three;have:=l.lo;have:=l.hi;have lk:=aUk ht;have ls:=aIn hs ht;have l3:=lk.three;rw[bT,cFq,bCy hb,oB,Bool.true_and];(cases hbk:M.bareOk b with|false=>rfl|true=>have hm:=aLl hbk;have:=hb.i;have:=hb.o;have ef:M.hostFree (M.left h g)=M.free (M.slots (M.left h g).Guests):=(by unfold M.hostFree;rw[nI.2 lk];rfl);have ed:M.hostDrop h g=(M.left h g,true):=(by unfold M.hostDrop;rw[ht];rfl);rw[bT,cFq,Bool.true_and,aXr hs,oB,ed];simp only[bT,cFq];rw[aVo ls,oB,ef,aYz hb.c,oB,aD ⟨by omega,by omega⟩,aD ⟨by omega,by omega⟩,aRu lk.len hm];(cases decide (M.used b.Mem 8<=(M.free (M.slots (M.left h g).Guests)).length)with|false=>rfl|true=>simp only[cTq,oB,LO.val,JO.run,tI];rw[aD ⟨by omega,by omega⟩];rfl)))
theorem aYq{b:DBare}(h:SmallB b):gF b=some b:=by unfold gF;rw[aMn h.c,mB h.mem,mB h.i,mB h.o];rfl
theorem bAf{a b:DBare}(h:SmallB a):nB a b=some (decide (a=b)):=by have:=h.c.regs;have:=h.mem;have:=h.i;have:=h.o;unfold nB;rw[aMo (by omega),lZ (by omega),lZ (by omega),lZ (by omega)];obtain⟨c,m,i,o⟩:=a;obtain⟨c',m',i',o'⟩:=b;simp only[oB,DBare.mk.injEq];by_cases h0:c=c'<;>by_cases h1:m=m'<;>by_cases h2:i=i'<;>by_cases h3:o=o'<;>simp[*]
theorem bAg{b:DBare}{left:Int}(h1:b.C.Regs.length<=9223372036854775807)(h2:b.Mem.length<=9223372036854775807)(h3:b.In.length<=9223372036854775807)(h4:b.Out.length<=9223372036854775807)(g0:0<=left)(g1:left<=1048576):
 ∃v,mT b left=some v/\(v<0\/(0<=v/\SmallB b)):=by
 unfold mT;rw[aLv h1 g0 g1];simp only[oB];split;{rename_i e1;rw[dF (p:=left-(b.C.Regs.length:Int)<0) (by omega),cFq,oO h2 (by omega) (by omega)];simp only[oB];split;{rename_i e2;rw[dF (p:=left-(b.C.Regs.length:Int)-(b.Mem.length:Int)<0) (by omega),cFq,oO h3 (by omega) (by omega)];simp only[oB];split;{rename_i e3;rw[dF (p:=left-(b.C.Regs.length:Int)-(b.Mem.length:Int)-(b.In.length:Int)<0) (by omega),cFq,oO h4 (by omega) (by omega)];simp only[oB];split;{rename_i e4;exact⟨_,by rw[dF (p:=left-(b.C.Regs.length:Int)-(b.Mem.length:Int)-(b.In.length:Int)-(b.Out.length:Int)<0) (by omega)];rfl,.inr ⟨by omega,⟨⟨by omega⟩,by omega,by omega,by omega⟩⟩⟩};{exact⟨-1,rfl,.inl (by omega)⟩}};{exact⟨-1,rfl,.inl (by omega)⟩}};{exact⟨-1,rfl,.inl (by omega)⟩}};{exact⟨-1,rfl,.inl (by omega)⟩}
theorem aRo{c:DCore}(h:SmallC c){k:Int}(h0:0<=k)(h1:k<=1000000000000000):kO c k=some (fM k c.Regs.length,k+c.Regs.length):=by have:=h.regs;unfold kO;rw[hY (by omega) h0 (by omega),oB,aD (by simp only[dB])]
theorem aRt{b:DBare}(h:SmallB b){k:Int}(h0:0<=k)(h1:k<=1000000000000000):kS b k=some (fM k b.C.Regs.length,fM (k+b.C.Regs.length) b.Mem.length,fM (k+b.C.Regs.length+b.Mem.length) b.In.length,fM (k+b.C.Regs.length+b.Mem.length+b.In.length) b.Out.length,k+b.C.Regs.length+b.Mem.length+b.In.length+b.Out.length):=by have:=h.c.regs;have:=h.mem;have:=h.i;have:=h.o;unfold kS;rw[aRo h.c h0 h1,oB,aD (by simp only[dB]),hY (by omega) (by simp only;omega) (by simp only;omega),oB,aD (by simp only[dB]),hY (by omega) (by simp only;omega) (by simp only;omega),oB,aD (by simp only[dB]),hY (by omega) (by simp only;omega) (by simp only;omega),oB,aD (by simp only[dB])]
theorem aMl{h:DHost}(hs:SmallH h):(lK h 1).2<=1000000000000000:=by have:=hs.words;have:=aAo (k:=1+h.Words.length) hs.guests hs.all;simp only[lK];omega
theorem aMu{h:DHost}{g:Int}{b:DBare}(hf:FitH h)(h1:b.C.Regs.length<=9223372036854775807)(h2:b.Mem.length<=9223372036854775807)(h3:b.In.length<=9223372036854775807)(h4:b.Out.length<=9223372036854775807):hT h g b=some true:=by unfold hT;obtain⟨v,hv,hs⟩:=aBt hf (left:=1048576) (by omega) (by omega);rw[hv];simp only[oB];rcases hs with h0|⟨h0,h00,hs⟩;{rw[aWg h0];rfl};{obtain⟨u,hu,hb⟩:=bAg h1 h2 h3 h4 h0 h00;rw[dF (by omega),cFq,hu];simp only[oB];rcases hb with hb|⟨hb0,hb⟩;{rw[aWg hb];rfl};{have hz:=aWs (g:=g) hs hb;have hp:=qX hs (k:=1) (by omega);have ht:=aMl hs;have hp2:=qX hz (k:=1) (by omega);have:=hb.c.regs;have:=hb.mem;have:=hb.i;have:=hb.o;rw[dF (by omega),cFq];simp only[aCt hs,aYq hb,aWx hs hb,aWw hs hb,oB,rJ hs,rJ hz,bAf hb,decide_true,bT,cFq,beq_self_eq_true,nK hs (k:=1) (by omega) (by omega),nK hz (k:=1) (by omega) (by omega),aRt hb hp ht,vU,xU hz (k:=1) (by omega) (by omega)];rw[aD True.intro,aD True.intro,aD (by simp only[dB]),aD (by simp only[dB]),aD (by simp only[dB]),aD (by simp only[dB]),dF (by omega),cFq,aD True.intro,aD True.intro,dF (by omega)];simp only[cFq]}}
theorem aMe{T:Type}[Inhabited T]{p:T->Bool}{xs:List T}:((List.range xs.length).all λk=>p (xs.getD k default))=xs.all p:=by rw[Bool.eq_iff_iff,List.all_eq_true,List.all_eq_true];constructor;{intro h x hx;obtain⟨i,hi,e⟩:=List.getElem_of_mem hx;have:=h i (List.mem_range.2 hi);rwa[cV hi,e]at this};{intro h i hi;exact h _ (mH (List.mem_range.1 hi))}
theorem bAh{qs:List Int}(h:qs.length<=1048576):pC qs=some (qs.all (M.inR 0 7)):=by
 unfold pC
 have key:=fU (n:=qs.length) (step:=jC qs) (λk=>(k:Int)) (λk=>M.inR 0 7 (qs.getD k default)) (JO.go ()) (.out false) (λk hk _=>by
  simp only[jC,iT];rw[dT (p:=(k:Int)<_) (by omega),cTq,aD ⟨by omega,by omega⟩,aOj,oB,aT (by omega) (by omega)];cases M.inR 0 7 (qs.getD k default)<;>rfl) (λ_=>by
  simp only[jC];rw[dF (by omega),cFq])
 rw[aMe (p:=M.inR 0 7)]at key;show Option.bind (Option.bind (iter (jC qs) ((0:Nat):Int)) LO.val) _=_;rw[key];cases qs.all (M.inR 0 7)<;>rfl
theorem aYt{qs:List Int}{ps:List DSlot}{k:Nat}(h:k<qs.length):M.give ps (qs.take (k+1))=(M.give ps (qs.take k)).set (qs.getD k default).toNat M.nowhere:=by unfold M.give;rw[List.take_succ_eq_append_getElem h,List.foldl_append,cV h];rfl
section
variable {h : DHost} {g : Int} {x : DGuest}
theorem aRc(l:Live h g x){qs:List Int}{k:Nat}(hk:k<qs.length):(h.Guests.set g.toNat (M.giveG x (qs.take k))).set g.toNat ⟨(M.giveG x (qs.take k)).Live,(M.giveG x (qs.take k)).C,(M.giveG x (qs.take k)).Pages.set (qs.getD k default).toNat ⟨-1,false,false⟩,(M.giveG x (qs.take k)).In,(M.giveG x (qs.take k)).Out⟩=h.Guests.set g.toNat (M.giveG x (qs.take (k+1))):=by rw[List.set_set];show h.Guests.set g.toNat (⟨x.Live,x.C,(M.give x.Pages (qs.take k)).set (qs.getD k default).toNat M.nowhere,x.In,x.Out⟩:DGuest)=h.Guests.set g.toNat (⟨x.Live,x.C,M.give x.Pages (qs.take (k+1)),x.In,x.Out⟩:DGuest);rw[aYt hk]
theorem aLt(l:Live h g x):h.Guests.set g.toNat (M.giveG x (([]:List Int).take 0))=h.Guests:=by have e:M.giveG x (([]:List Int).take 0)=x:=rfl;rw[e,<-l.at_];exact qC
end
theorem aVh{h:DHost}{g:Int}{qs:List Int}(hs:SmallH h)(hq:qs.length<=1048576):iO h g qs=some (M.hostGive h g qs):=by
 unfold iO M.hostGive;rw[zM hs,oB];cases ht:M.there h g with
 |false=>rfl
 |true=>
  have l:=jN hs ht;have hk:=l.ok;have h3:=hk.three;have:=l.lo;have:=l.hi;have hp:=l.pages;rw[bT,cFq,bAh hq,oB,Bool.true_and];cases ho:qs.all (M.inR 0 7)with
  |false=>rfl
  |true=>
   rw[bT,cFq,aAz hs hk,oB]
   have key:=fU (n:=qs.length) (step:=iB g qs) (λk=>(h.Guests.set g.toNat (M.giveG (h.Guests.getD g.toNat default) (qs.take k)),(k:Int))) (λ_=>true) (JO.go (h.Guests.set g.toNat (M.giveG (h.Guests.getD g.toNat default) qs))) (JO.go (h.Guests.set g.toNat (M.giveG (h.Guests.getD g.toNat default) qs))) (λk hk2 _=>by
    have e1:(h.Guests.set g.toNat (M.giveG (h.Guests.getD g.toNat default) (qs.take k))).getD g.toNat default=M.giveG (h.Guests.getD g.toNat default) (qs.take k):=rT (by omega);have hl:(M.giveG (h.Guests.getD g.toNat default) (qs.take k)).Pages.length=8:=give_len.trans hp;have hr:=M.inR_iff.1 (List.all_eq_true.1 ho _ (mH hk2));simp only[iB,iT,e1];rw[dT (p:=(k:Int)<_) (by omega),cTq,aD ⟨by omega,by omega⟩,aD ⟨by omega,by rw[lS];omega⟩,aD ⟨by omega,by omega⟩,aT (by omega) (by omega),cTq];exact congrArg (λz=>some (LO.next (z,(k:Int)+1))) (aRc l hk2)) (λ_=>by
    simp only[iB];rw[dF (by omega),cFq,List.take_length])
   rw[Bool.cond_self]at key;have e0:h.Guests.set g.toNat (M.giveG (h.Guests.getD g.toNat default) (qs.take 0))=h.Guests:=aLt l;rw[e0]at key;show Option.bind (Option.bind (iter (iB g qs) (h.Guests,((0:Nat):Int))) LO.val) _=_;rw[key];rfl
theorem aVk{h:DHost}{g:Int}{qs:List Int}(hs:SmallH h)(hq:qs.length<=1048576):kY h g qs=some (M.hostGive h g qs):=by
 unfold kY M.hostGive;rw[aJr hs,oB];cases ht:M.there h g with
 |false=>rfl
 |true=>
  have l:=jN hs ht;have hk:=l.ok;have h3:=hk.three;have:=l.lo;have:=l.hi;have hp:=l.pages;rw[bT,cFq,aOf hs hk.all,oB,Bool.true_and]
  have key:=fU (n:=qs.length) (step:=iD g qs) (λk=>(h.Guests.set g.toNat (M.giveG (h.Guests.getD g.toNat default) (qs.take k)),(k:Int))) (λk=>M.inR 0 7 (qs.getD k default)) (JO.go (h.Guests.set g.toNat (M.giveG (h.Guests.getD g.toNat default) qs))) (.out (⟨[],[]⟩,false)) (λk hk2 _=>by
   have e1:(h.Guests.set g.toNat (M.giveG (h.Guests.getD g.toNat default) (qs.take k))).getD g.toNat default=M.giveG (h.Guests.getD g.toNat default) (qs.take k):=rT (by omega);have hl:(M.giveG (h.Guests.getD g.toNat default) (qs.take k)).Pages.length=8:=give_len.trans hp;simp only[iD,iT,e1];rw[dT (p:=(k:Int)<_) (by omega),cTq,aD ⟨by omega,by omega⟩,aDt,oB];cases hr:M.inR 0 7 (qs.getD k default)with
   |false=>rfl
   |true=>have hr:=M.inR_iff.1 hr;rw[bT,cFq,aD ⟨by omega,by rw[lS];omega⟩,aD ⟨by omega,by omega⟩,aD ⟨by omega,by omega⟩,aT (by omega) (by omega),cTq];exact congrArg (λz=>some (LO.next (z,(k:Int)+1))) (aRc l hk2)) (λ_=>by
   simp only[iD];rw[dF (by omega),cFq,List.take_length])
  rw[aMe (p:=M.inR 0 7)]at key;have e0:h.Guests.set g.toNat (M.giveG (h.Guests.getD g.toNat default) (qs.take 0))=h.Guests:=aLt l;rw[e0]at key;show Option.bind (Option.bind (iter (iD g qs) (h.Guests,((0:Nat):Int))) LO.val) _=_;rw[key];cases qs.all (M.inR 0 7)<;>rfl
theorem aMz{h:DHost}{g:Int}{qs:List Int}(hf:FitH h)(hl:qs.length<=9223372036854775807):hO h g qs=some true:=by unfold hO;by_cases ht:1048576<qs.length;{rw[dT (by omega)];rfl};{rw[dF (by omega),cFq];have hq:qs.length<=1048576:=(by omega);obtain⟨v,hv,hs⟩:=aBt hf (left:=1048576) (by omega) (by omega);rw[hv];simp only[oB];rcases hs with h0|⟨h0,-,hs⟩;{rw[aWg h0];rfl};{have hz:=aKv (g:=g) (qs:=qs) hs;have hp:=qX hs (k:=1) (by omega);have hp2:=qX hz (k:=1) (by omega);rw[dF (by omega),cFq];simp only[aCt hs,mB hq,aVh hs hq,aVk hs hq,oB,rJ hs,rJ hz,lZ (xs:=qs) (ys:=qs) (by omega),decide_true,bT,cFq,beq_self_eq_true,nK hs (k:=1) (by omega) (by omega),nK hz (k:=1) (by omega) (by omega),vU,xU hz (k:=1) (by omega) (by omega)];have ht:=aMl hs;rw[aD True.intro,aD True.intro,hY (xs:=qs) (by omega) (by omega) (by omega),oB,aD (by rw[dB]),dF (by simp only;omega)];simp only[cFq];rw[aD True.intro,aD True.intro,dF (by omega)];rfl}}
end Go.Proofs.Ytobbmlnagjhofaa
