/- The plain functions: what they answer. -/
import Derived.Test.YtkjabgefacfpfaaZY
import Derived.Test.YtkjabgefacfpfaaWO1
import Derived.Test.YtkjabgefacfpfaaWH1
import Derived.Test.YtkjabgefacfpfaaWHO1
import Derived.Test.YtkjabgefacfpfaaWHT1
import Derived.Test.YtkjabgefacfpfaaWHC1
import Derived.Test.YtkjabgefacfpfaaWHV1
import Derived.Test.YtkjabgefacfpfaaWHF1
import Derived.Test.YtkjabgefacfpfaaWHD1
import Derived.Test.YtkjabgefacfpfaaWSH1
import Derived.Test.YtkjabgefacfpfaaWHM1
import Derived.Test.YtkjabgefacfpfaaWESH1
import Derived.Test.YtkjabgefacfpfaaWSO1
import Derived.Test.YtkjabgefacfpfaaWZH1
import Derived.Test.YtkjabgefacfpfaaWEZH1
import Derived.Test.YtkjabgefacfpfaaWSI1
import Derived.Test.YtkjabgefacfpfaaWI1
import Derived.Test.YtkjabgefacfpfaaWJ1
import Derived.Test.YtkjabgefacfpfaaWK1
import Derived.Test.YtkjabgefacfpfaaWHB1
import Derived.Test.YtkjabgefacfpfaaWAZ1
namespace Go.Proofs.Ytkjabgefacfpfaa
set_option linter.all false
theorem bO{α:Type}[Inhabited α]{xs:List α}{i:Nat}(h:i<xs.length):xs.getD i default=xs[i]:=by simp[List.getD,h]
namespace M
def inR(lo hi n:Int):Bool:=decide (lo<=n)&&decide (n<=hi)
def wordOk(n:Int):Bool:=inR 0 4095 n
def wordsOk(xs:List Int):Bool:=xs.all wordOk
def memOk(xs:List Int):Bool:=decide (xs.length=64)&&wordsOk xs
theorem inR_iff{lo hi n:Int}:inR lo hi n=true↔lo<=n/\n<=hi:=by simp[inR]
end M
theorem bKf{b:Bool}{x:Option Bool}{y:Bool}(h:x=some y):(cond b x (some false))=some (b&&y):=by cases b<;>simp[h]
theorem vC{b y:Bool}:(cond b (some y) (some false))=some (b&&y):=by cases b<;>rfl
theorem aUw(n:Int):iU n=some (M.wordOk n):=by unfold iU;rw[vC];rfl
theorem aCm(n lo hi:Int):cS n lo hi=some (M.inR lo hi n):=by unfold cS;rw[vC];rfl
theorem zB(n:Int):iT n=some (M.wordOk n):=by unfold iT;rw[aCm];rfl
theorem bId{a b:Int}:decide (a<b+1)=decide (a<=b):=by rw[decide_eq_decide];omega
theorem uQ {T:Type} [Inhabited T] {xs:List T} {Pf:T->Option Bool} {p:T->Bool} (hP:∀x,Pf x=some (p x)) (hl:xs.length<=9223372036854775806) (step:Int->Option (LO Int (JO Unit Bool)))
 (hs:∀k,step k=cond (decide (k<((List.length xs:Nat):Int))) (grd ((0:Int)<=k/\k<((List.length xs:Nat):Int)) (Option.bind (Pf (List.getD xs (Int.toNat k) default)) λv=>cond (!v) (some (.ret (.out false))) (some (.next (w64 (k+(1:Int))))))) (some (.ret (.go ())))):
 iter step 0=some (.ret (bif xs.all p then .go ()else .out false)):=by
 have key:∀k:Int,(0<=k/\k<=(xs.length:Int))->iter step k=some (.ret (bif (xs.drop k.toNat).all p then .go ()else .out false)):=by
  refine uP _ (λk=>xs.length-k.toNat) _ ?_
  rintro k ⟨h0,h1⟩
  by_cases hk:k<xs.length
  · have e1:xs.drop k.toNat=xs.getD k.toNat default::xs.drop (k+1).toNat:=by
     rw[bO (by omega),show(k+1).toNat=k.toNat+1 by omega];exact List.drop_eq_getElem_cons (by omega)
    have hst:step k=cond (!p (xs.getD k.toNat default)) (some (.ret (.out false))) (some (.next (k+1))):=(by rw[hs,decide_eq_true hk,cond_true,aD ⟨h0,hk⟩,hP,aC (by omega) (by omega)];rfl);(cases hp:p (xs.getD k.toNat default)with|true=>refine .inl ⟨k+1,by rw[hst,hp];rfl,⟨by omega,by omega⟩,by omega,?_⟩;rw[e1,List.all_cons,hp,Bool.true_and]|false=>refine .inr ⟨λs'=>by rw[hst,hp];simp,?_⟩;rw[hst,hp,e1,List.all_cons,hp];rfl)
  {have hk2:k=xs.length:=(by omega);have hf:decide (k<((List.length xs:Nat):Int))=false:=(by simp;omega);refine .inr ⟨λs'=>by rw[hs,hf];simp,?_⟩;rw[hs,hf,hk2];simp}
 simpa using key 0 ⟨by omega,by omega⟩
theorem aGn{xs:List Int}(h:xs.length<=9223372036854775806):jW xs=some (M.wordsOk xs):=by unfold jW;rw[uQ aUw h (xA xs) (λk=>rfl)];simp only[M.wordsOk];cases xs.all M.wordOk<;>rfl
theorem bJk{xs:List Int}(h:xs.length<=9223372036854775806):tL xs=some (M.memOk xs):=by unfold tL;rw[uQ zB h (aAu xs) (λk=>rfl)];simp only[M.memOk,M.wordsOk];cases xs.all M.wordOk;{simp[LO.val,JO.run]};{simp only[LO.val,JO.run,Option.bind_some,aAq,cond_true,Bool.and_true];congr 1;rw[decide_eq_decide];omega}
theorem bDf{xs:List Int}(h:M.memOk xs=true):xs.length=64:=by simp only[M.memOk,Bool.and_eq_true,decide_eq_true_eq]at h;exact h.1
end Go.Proofs.Ytkjabgefacfpfaa
namespace Go.Proofs.Ytkjabgefacfpfaa
set_option linter.all false
theorem aAr{xs:List Int}(h:xs.length<=1048576):iP xs=some xs:=by
 have key:∀s:List Int×Int,(0<=s.2/\s.2<=(xs.length:Int)/\s.1.length=xs.length/\∀i,i<s.2.toNat->s.1[i]? =xs[i]?)->iter (kD xs) s=some (.ret (.go xs)):=by
  refine uP _ (λs=>xs.length-s.2.toNat) _ ?_
  rintro⟨ys,k⟩ ⟨h0,h1,h2,h3⟩
  simp only at h0 h1 h2 h3;by_cases hk:k<xs.length;{refine .inl ⟨(ys.set k.toNat (xs.getD k.toNat default),k+1),?_,⟨by simp only;omega,by simp only;omega,by simpa using h2,?_⟩,by simp only;omega,rfl⟩;{simp only[kD,decide_eq_true hk,cond_true,grd,h2];rw[if_pos ⟨h0,hk⟩,if_pos ⟨h0,hk⟩,aC (by omega) (by omega)]};{intro j hj;simp only at hj ⊢;rw[List.getElem?_set];by_cases e:k.toNat=j;{subst e;rw[if_pos rfl,if_pos (by omega),bO (by omega),List.getElem?_eq_getElem (by omega)]};{rw[if_neg e];exact h3 j (by omega)}}}
  · have hy:ys=xs:=by
     apply List.ext_getElem?;intro j;by_cases hj:j<xs.length;{exact h3 j (by omega)};{rw[List.getElem?_eq_none (by omega),List.getElem?_eq_none (by omega)]}
    have hf:decide (k<(xs.length:Int))=false:=(by simp;omega);refine .inr ⟨?_,?_⟩;{intro s';simp only[kD,hf,cond_false];simp};{simp only[kD,hf,cond_false,hy]}
 unfold iP;rw[aD ⟨by omega,by omega,by omega⟩,key _ ⟨by simp,by simp,by simp,by simp⟩];rfl
theorem aAk{xs ys:List Int}(h:xs.length<=9223372036854775807):iR xs ys=some (decide (xs=ys)):=by
 unfold iR;by_cases hl:xs.length=ys.length
 · have key:∀k:Int,(0<=k/\k<=(xs.length:Int))->iter (fF xs ys) k=some (.ret (bif decide (xs.drop k.toNat=ys.drop k.toNat)then .go ()else .out false)):=by
    refine uP _ (λk=>xs.length-k.toNat) _ ?_
    rintro k ⟨h0,h1⟩
    by_cases hk:k<xs.length
    · have e1:xs.drop k.toNat=xs.getD k.toNat default::xs.drop (k+1).toNat:=by
       rw[bO (by omega),show(k+1).toNat=k.toNat+1 by omega];exact List.drop_eq_getElem_cons (by omega)
      have e2:ys.drop k.toNat=ys.getD k.toNat default::ys.drop (k+1).toNat:=(by rw[bO (by omega),show(k+1).toNat=k.toNat+1 by omega];exact List.drop_eq_getElem_cons (by omega));by_cases he:xs.getD k.toNat default=ys.getD k.toNat default;{refine .inl ⟨k+1,?_,⟨by omega,by omega⟩,by omega,?_⟩;{simp only[fF,decide_eq_true hk,cond_true,grd];rw[if_pos ⟨h0,hk⟩,if_pos ⟨h0,by omega⟩,he,aC (by omega) (by omega)];simp};{rw[e1,e2,he];simp}};{have hf:(!decide (xs.getD k.toNat default=ys.getD k.toNat default))=true:=(by rw[decide_eq_false he];rfl);refine .inr ⟨?_,?_⟩;{intro s';simp only[fF,decide_eq_true hk,cond_true,grd];rw[if_pos ⟨h0,hk⟩,if_pos ⟨h0,by omega⟩,hf];simp};{simp only[fF,decide_eq_true hk,cond_true,grd];rw[if_pos ⟨h0,hk⟩,if_pos ⟨h0,by omega⟩,hf,e1,e2];have:decide (xs.getD k.toNat default::xs.drop (k+1).toNat=ys.getD k.toNat default::ys.drop (k+1).toNat)=false:=decide_eq_false λe=>he (List.cons.inj e).1;rw[this];rfl}}
    {have hk2:k=xs.length:=(by omega);subst hk2;refine .inr ⟨?_,?_⟩;{intro s';simp[fF]};{simp[fF,hl]}}
   rw[key 0 ⟨by omega,by omega⟩];have:decide ((xs.length:Int)=(ys.length:Int))=true:=(by simp[hl]);rw[this];by_cases e:xs=ys;{subst e;simp[LO.val,JO.run,yV]};{simp[e,LO.val,JO.run]}
 {have:decide ((xs.length:Int)=(ys.length:Int))=false:=(by simp;omega);rw[this];have e:xs≠ys:=λe=>hl (by rw[e]);simp[e]}
end Go.Proofs.Ytkjabgefacfpfaa
namespace Go.Proofs.Ytkjabgefacfpfaa
set_option linter.all false
def jB(k:Int)(n:Nat):List Int:=(List.range n).map λ(i:Nat)=>k+(i:Int)
theorem jH{k:Int}{n:Nat}:(jB k n).length=n:=by simp[jB]
theorem vF{xs:List Int}{k:Int}(h:xs.length<=9007199254740992)(h0:0<=k)(h1:k<=9007199254740992):eW xs k=some (jB k xs.length,k+xs.length):=by
 have key:∀s:List Int×Int×Int,(0<=s.2.2/\s.2.2<=(xs.length:Int)/\s.2.1=k+s.2.2/\s.1.length=xs.length/\∀i,i<s.2.2.toNat->s.1[i]? =some (k+i))->iter fP s=some (.ret (.go (k+xs.length,jB k xs.length))):=by
  refine uP _ (λs=>xs.length-s.2.2.toNat) _ ?_
  rintro⟨ys,q,i⟩ ⟨a0,a1,a2,a3,a4⟩
  simp only at a0 a1 a2 a3 a4;by_cases hi:i<xs.length;{refine .inl ⟨(ys.set i.toNat q,q+1,i+1),?_,⟨by simp only;omega,by simp only;omega,by simp only;omega,by simpa using a3,?_⟩,by simp only;omega,rfl⟩;{simp only[fP,a3,decide_eq_true hi,cond_true,grd];rw[if_pos ⟨a0,hi⟩,aC (by omega) (by omega),aC (by omega) (by omega)]};{intro j hj;simp only at hj ⊢;rw[List.getElem?_set];by_cases e:i.toNat=j;{subst e;rw[if_pos rfl,if_pos (by omega)];congr 1;omega};{rw[if_neg e];exact a4 j (by omega)}}};{have hi2:i=xs.length:=(by omega);have hy:ys=jB k xs.length:=(by apply List.ext_getElem?;intro j;by_cases hj:j<xs.length;{rw[a4 j (by omega)];simp[jB,hj]};{rw[List.getElem?_eq_none (by omega),List.getElem?_eq_none (by rw[jH];omega)]});have hf:decide (i<(ys.length:Int))=false:=(by simp;omega);refine .inr ⟨?_,?_⟩;{intro s';simp only[fP,hf,cond_false];simp};{simp only[fP,hf,cond_false,a2,hi2,hy];rw[<-hy,a3];simp}}
 unfold eW;rw[key _ ⟨by simp,by simp,by simp,rfl,by simp⟩];rfl
theorem aJb{n:Nat}{k:Int}(h:n<=9007199254740992)(h0:0<=k)(h1:k<=9007199254740992):fV (jB k n) k=some (k+n):=by
 have key:∀s:Int×Int,(0<=s.2/\s.2<=(n:Int)/\s.1=k+s.2)->iter (iD (jB k n)) s=some (.ret (.go (k+n))):=by
  refine uP _ (λs=>n-s.2.toNat) _ ?_
  rintro⟨q,i⟩ ⟨a0,a1,a2⟩
  simp only at a0 a1 a2;by_cases hi:i<n;{refine .inl ⟨(q+1,i+1),?_,⟨by simp only;omega,by simp only;omega,by simp only;omega⟩,by simp only;omega,rfl⟩;have hl:i<((jB k n).length:Int):=(by rw[jH];exact hi);have hg:(jB k n).getD i.toNat default=q:=(by rw[bO (by rw[jH];omega)];simp only[jB,List.getElem_map,List.getElem_range];omega);simp only[iD,decide_eq_true hl,cond_true,grd];rw[if_pos ⟨a0,hl⟩,hg,aC (by omega) (by omega),aC (by omega) (by omega)];simp};{have hf:decide (i<((jB k n).length:Int))=false:=(by simp[jH];omega);refine .inr ⟨?_,?_⟩;{intro s';simp only[iD,hf,cond_false];simp};{simp only[iD,hf,cond_false,a2];rw[show i=n by omega]}}
 unfold fV;rw[key _ ⟨by simp,by simp,by simp⟩];rfl
theorem aAw{xs:List Int}{left:Int}(h:xs.length<=9223372036854775807)(h0:0<=left)(h1:left<=1048576):iQ xs left=some (if(xs.length:Int)<=left then left-xs.length else-1):=by unfold iQ;rw[aC (by omega) (by omega)];by_cases hl:(xs.length:Int)<=left;{have:decide (left-(xs.length:Int)<0)=false:=(by simp;omega);rw[this,if_pos hl];rfl};{have:decide (left-(xs.length:Int)<0)=true:=(by simp;omega);rw[this,if_neg hl];rfl}
end Go.Proofs.Ytkjabgefacfpfaa
namespace Go.Proofs.Ytkjabgefacfpfaa
set_option linter.all false
theorem aVu(n:Int):cP n=some (M.inR 0 63 n):=by unfold cP;rw[vC,show(64:Int)=63+1 from rfl,bId];rfl
theorem bFw(n:Int):rT n=some (M.inR 0 7 n):=by unfold rT;rw[vC,show(8:Int)=7+1 from rfl,bId];rfl
theorem bFn(n:Int):nQ n=some (M.inR (-1) 7 n):=by unfold nQ;rw[bFw];by_cases h:n=-1;{subst h;rfl};{rw[decide_eq_false h];show some (M.inR 0 7 n)=_;congr 1;simp only[M.inR];congr 1;rw[decide_eq_decide];omega}
end Go.Proofs.Ytkjabgefacfpfaa
namespace Go.Proofs.Ytkjabgefacfpfaa
set_option linter.all false
noncomputable instance:DecidableEq DCore:=λa b=>Classical.propDecidable (a=b)
noncomputable instance:DecidableEq DBare:=λa b=>Classical.propDecidable (a=b)
namespace M
def coreOk(c:DCore):Bool:=decide (c.Regs.length=4)&&wordsOk c.Regs&&(inR 0 63 c.Pc&&inR 0 63 c.Vector&&inR 0 63 c.Saved&&inR 0 63 c.Bad)&&inR (-1) 7 c.Root&&inR 0 4 c.Cause&&wordOk c.Timer
def rowOk(xs:List Int):Bool:=decide (xs.length<=30)&&wordsOk xs
def bareOk(b:DBare):Bool:=coreOk b.C&&memOk b.Mem&&rowOk b.In&&rowOk b.Out
end M
theorem aXt{xs:List Int}(h:xs.length<=9223372036854775806):pR xs=some (M.rowOk xs):=by unfold pR;rw[aGn h];show cond _ (some _) (some false)=_;rw[vC];simp only[M.rowOk];congr 2;rw[decide_eq_decide];omega
theorem aHx{xs:List Int}(h:xs.length<=9223372036854775806):dW xs 30=some (M.rowOk xs):=by unfold dW;rw[uQ zB h (qZ xs) (λk=>rfl)];simp only[M.rowOk,M.wordsOk];cases xs.all M.wordOk;{simp[LO.val,JO.run]};{simp only[LO.val,JO.run,Option.bind_some,qY,cond_true,Bool.and_true];congr 1;rw[decide_eq_decide];omega}
theorem bFe{c:DCore}(h:c.Regs.length<=9223372036854775806):rV c=some (M.coreOk c):=by unfold rV;simp only[aGn h,aVu,bFn,aUw,Option.bind_some];have e4:decide (((c.Regs.length:Nat):Int)=4)=decide (c.Regs.length=4):=(by rw[decide_eq_decide];omega);rw[e4];simp only[M.coreOk,M.inR];generalize decide (c.Regs.length=4)=b0;generalize M.wordsOk c.Regs=b1;generalize(decide (0<=c.Pc)&&decide (c.Pc<=63))=b2;generalize(decide (0<=c.Vector)&&decide (c.Vector<=63))=b3;generalize(decide (0<=c.Saved)&&decide (c.Saved<=63))=b4;generalize(decide (0<=c.Bad)&&decide (c.Bad<=63))=b5;generalize(decide (-1<=c.Root)&&decide (c.Root<=7))=b6;generalize decide (0<=c.Cause)=b7;generalize decide (c.Cause<=4)=b8;generalize M.wordOk c.Timer=b9;cases b0<;>cases b2<;>cases b3<;>cases b4<;>cases b7<;>cases b1<;>cases b5<;>cases b6<;>cases b8<;>rfl
theorem aRq{c:DCore}(h:c.Regs.length<=9223372036854775806):kZ c=some (M.coreOk c):=by unfold kZ;rw[uQ zB h (zQ c) (λk=>rfl)];simp only[M.coreOk,M.wordsOk];cases c.Regs.all M.wordOk;{simp[LO.val,JO.run]};{simp only[LO.val,JO.run,Option.bind_some,zN,cond_true,Bool.and_true,aCm,zB];have e4:decide (((c.Regs.length:Nat):Int)=4)=decide (c.Regs.length=4):=(by rw[decide_eq_decide];omega);rw[e4];generalize decide (c.Regs.length=4)=b0;generalize M.inR 0 63 c.Pc=b2;generalize M.inR 0 63 c.Vector=b3;generalize M.inR 0 63 c.Saved=b4;generalize M.inR 0 63 c.Bad=b5;generalize M.inR (-1) 7 c.Root=b6;generalize M.inR 0 4 c.Cause=b7;generalize M.wordOk c.Timer=b9;cases b0<;>cases b2<;>cases b3<;>cases b4<;>cases b7<;>cases b5<;>cases b6<;>rfl}
structure SmallC (c : DCore) : Prop where
 regs:c.Regs.length<=1048576
structure SmallB (b : DBare) : Prop where
 c:SmallC b.C
 mem:b.Mem.length<=1048576
 i:b.In.length<=1048576
 o:b.Out.length<=1048576
theorem bGx{b:DBare}(h:SmallB b):rW b=some (M.bareOk b):=by have:=h.c.regs;have:=h.mem;have:=h.i;have:=h.o;unfold rW;simp only[aRq (show b.C.Regs.length<=9223372036854775806 by omega),bJk (show b.Mem.length<=9223372036854775806 by omega),aHx (show b.In.length<=9223372036854775806 by omega),aHx (show b.Out.length<=9223372036854775806 by omega),Option.bind_some,M.bareOk];cases M.coreOk b.C<;>cases M.memOk b.Mem<;>cases M.rowOk b.In<;>rfl
end Go.Proofs.Ytkjabgefacfpfaa
namespace Go.Proofs.Ytkjabgefacfpfaa
set_option linter.all false
theorem bDa{c:DCore}(h:SmallC c):rJ c=some c:=by unfold rJ;rw[aAr h.regs];rfl
theorem bEj{a b:DCore}(h:a.Regs.length<=9223372036854775807):rK a b=some (decide (a=b)):=by unfold rK;rw[aAk h];obtain⟨r,p1,p2,p3,p4,p5,p6,p7,p8,p9,p10,p11,p12⟩:=a;obtain⟨r',q1,q2,q3,q4,q5,q6,q7,q8,q9,q10,q11,q12⟩:=b;simp only[Option.bind_some,DCore.mk.injEq];by_cases h0:r=r'<;>by_cases h1:p1=q1<;>by_cases h2:p2=q2<;>by_cases h3:p3=q3<;>by_cases h4:p4=q4<;>by_cases h6:p6=q6<;>by_cases h7:p7=q7<;>by_cases h8:p8=q8<;>simp[*];cases p5<;>cases q5<;>cases p9<;>cases q9<;>cases p10<;>cases q10<;>cases p11<;>cases q11<;>cases p12<;>cases q12<;>rfl
theorem bEo{c:DCore}{left:Int}(h:c.Regs.length<=9223372036854775807)(h0:0<=left)(h1:left<=1048576):rQ c left=some (if(c.Regs.length:Int)<=left then left-c.Regs.length else-1):=by unfold rQ;rw[aAw h h0 h1];simp only[Option.bind_some];split;{have:decide (left-(c.Regs.length:Int)<0)=false:=(by simp;omega);rw[this];rfl};{rfl}
theorem bMf{v:Int}(h:v<0):decide (v<0)=true:=decide_eq_true h
end Go.Proofs.Ytkjabgefacfpfaa
namespace Go.Proofs.Ytkjabgefacfpfaa
set_option linter.all false
theorem aJz{T:Type}[Inhabited T]{pre suf:List T}{x:T}:(pre++x::suf).getD pre.length default=x:=by simp[List.getD]
theorem aHg {T:Type} [Inhabited T] {xs ys:List T} {step:List T×Int->Option (LO (List T×Int) (JO (List T) (List T)))} (hl:ys.length=xs.length)
 (hs:∀(k:Nat) (zs:List T),k<xs.length->zs.length=xs.length->step (zs,(k:Int))=some (.next (zs.set k (xs.getD k default),(k:Int)+1)))
 (he:∀zs:List T,zs.length=xs.length->step (zs,(xs.length:Int))=some (.ret (.go zs))):iter step (ys,0)=some (.ret (.go xs)):=by
 have key:∀(n k:Nat) (zs:List T),k+n=xs.length->zs.length=xs.length->(∀i,i<k->zs[i]? =xs[i]?)->iter step (zs,(k:Int))=some (.ret (.go xs)):=by
  intro n;induction n with
  |zero=>intro k zs hk hz h;have e:zs=xs:=(by apply List.ext_getElem?;intro i;by_cases hi:i<k;{exact h i hi};{rw[List.getElem?_eq_none (by omega),List.getElem?_eq_none (by omega)]});have hk:k=xs.length:=(by omega);rw[cB,hk,he zs hz,e]
  |succ n ih=>
   intro k zs hk hz h;rw[cB,hs k zs (by omega) hz]
   have:=ih (k+1) (zs.set k (xs.getD k default)) (by omega) (by simpa using hz) (λi hi=>by
    rw[List.getElem?_set];by_cases e:k=i;{subst e;rw[if_pos rfl,if_pos (by omega),bO (by omega),List.getElem?_eq_getElem (by omega)]}
    · rw[if_neg e];exact h i (by omega))
   simpa using this
 simpa using key xs.length 0 ys (by omega) hl (by simp)
def cU{T:Type}(m:T->Int->T×Int):List T->Int->List T×Int
 |[],k=>([],k)
 |x::xs,k=>((m x k).1::(cU m xs (m x k).2).1,(cU m xs (m x k).2).2)
theorem wN{T:Type}{m:T->Int->T×Int}:∀{xs:List T} {k:Int},(cU m xs k).1.length=xs.length
 |[],_=>rfl
 |x::xs,k=>by simp[cU,wN]
theorem aJw{T:Type}{m:T->Int->T×Int}{C:Int}:∀{xs:List T} {k:Int},(∀x∈xs,∀k,k<=(m x k).2/\(m x k).2<=k+C)->k<=(cU m xs k).2/\(cU m xs k).2<=k+xs.length*C
 |[],k,_=>by simp[cU]
 |x::xs,k,h=>by have h1:=h x (by simp) k;have h2:=aJw (xs:=xs) (k:=(m x k).2) λy hy=>h y (by simp[hy]);simp only[cU,List.length_cons];have:((xs.length+1:Nat):Int)*C=(xs.length:Int)*C+C:=(by rw[Int.natCast_add,Int.add_mul];simp);omega
theorem aQe {T:Type} [Inhabited T] {m:T->Int->T×Int} {C B:Int} {step:List T×Int×Int->Option (LO (List T×Int×Int) (JO (Int×List T) (List T×Int)))} {xs:List T} {k:Int}
 (hm:∀x∈xs,∀k,k<=(m x k).2/\(m x k).2<=k+C) (hk:0<=k) (hB:k+xs.length*C<=B) (hC:0<=C)
 (hs:∀(zs:List T) (i:Nat) (q:Int),zs.length=xs.length->i<zs.length->zs.getD i default∈xs->0<=q->q<=B-C->step (zs,q,(i:Int))=some (.next (zs.set i (m (zs.getD i default) q).1,(m (zs.getD i default) q).2,(i:Int)+1)))
 (he:∀(zs:List T) (q:Int),zs.length=xs.length->step (zs,q,(zs.length:Int))=some (.ret (.go (q,zs)))):iter step (xs,k,0)=some (.ret (.go ((cU m xs k).2,(cU m xs k).1))):=by
 have key:∀(suf pre:List T) (q:Int),(pre++suf).length=xs.length->(∀x∈suf,x∈xs)->0<=q->q+suf.length*C<=B->iter step (pre++suf,q,(pre.length:Int))=some (.ret (.go ((cU m suf q).2,pre++(cU m suf q).1))):=by
  intro suf;induction suf with
  |nil=>intro pre q hl _ _ _;rw[List.append_nil]at hl ⊢;rw[cB,he pre q hl];simp[cU]
  |cons x suf ih=>intro pre q hl hx hq hb;have e1:(pre++x::suf).getD pre.length default=x:=aJz;have hb1:((suf.length+1:Nat):Int)*C=(suf.length:Int)*C+C:=(by rw[Int.natCast_add,Int.add_mul];simp);have hnn:0<=(suf.length:Int)*C:=Int.mul_nonneg (by omega) hC;simp only[List.length_cons]at hb;have h1:=hm x (hx x (by simp)) q;rw[cB,hs (pre++x::suf) pre.length q hl (by simp) (by rw[e1];exact hx x (by simp)) hq (by omega)];rw[e1];have e2:(pre++x::suf).set pre.length (m x q).1=(pre++[(m x q).1])++suf:=(by simp);have:=ih (pre++[(m x q).1]) (m x q).2 (by simpa using hl) (λy hy=>hx y (by simp[hy])) (by omega) (by omega);simp only[List.length_append,List.length_cons,List.length_nil,Nat.zero_add,Int.natCast_add]at this;simp only[e2];rw[show((1:Nat):Int)=1 from rfl]at this;rw[this];simp[cU]
 simpa using key xs [] k rfl (λ_ h=>h) hk hB
theorem aPn {T:Type} [Inhabited T] {m:T->Int->T×Int} {C B:Int} {step:List T->Int×Int->Option (LO (Int×Int) (JO Int Int))} {xs:List T} {k:Int}
 (hm:∀x∈xs,∀k,k<=(m x k).2/\(m x k).2<=k+C) (hk:0<=k) (hB:k+xs.length*C<=B) (hC:0<=C)
 (hs:∀(zs:List T) (i:Nat) (x:T) (q:Int),zs.length=xs.length->i<zs.length->x∈xs->0<=q->q<=B-C->zs.getD i default=(m x q).1->step zs (q,(i:Int))=some (.next ((m x q).2,(i:Int)+1)))
 (he:∀(zs:List T) (q:Int),zs.length=xs.length->step zs (q,(zs.length:Int))=some (.ret (.go q))):iter (step (cU m xs k).1) (k,0)=some (.ret (.go (cU m xs k).2)):=by
 have key:∀(suf pre:List T) (q:Int),(pre++suf).length=xs.length->(∀x∈suf,x∈xs)->0<=q->q+suf.length*C<=B->iter (step (pre++(cU m suf q).1)) (q,(pre.length:Int))=some (.ret (.go (cU m suf q).2)):=by
  intro suf;induction suf with
  |nil=>intro pre q hl _ _ _;simp only[cU];rw[List.append_nil]at hl ⊢;rw[cB,he pre q hl]
  |cons x suf ih=>intro pre q hl hx hq hb;have hb1:((suf.length+1:Nat):Int)*C=(suf.length:Int)*C+C:=(by rw[Int.natCast_add,Int.add_mul];simp);have hnn:0<=(suf.length:Int)*C:=Int.mul_nonneg (by omega) hC;simp only[List.length_cons]at hb;have h1:=hm x (hx x (by simp)) q;simp only[cU];have e1:(pre++(m x q).1::(cU m suf (m x q).2).1).getD pre.length default=(m x q).1:=aJz;rw[cB,hs _ pre.length x q (by simpa[wN]using hl) (by simp) (hx x (by simp)) hq (by omega) e1];have:=ih (pre++[(m x q).1]) (m x q).2 (by simpa using hl) (λy hy=>hx y (by simp[hy])) (by omega) (by omega);simp only[List.length_append,List.length_cons,List.length_nil,Nat.zero_add,Int.natCast_add,List.append_assoc,List.cons_append,List.nil_append]at this;rw[show((1:Nat):Int)=1 from rfl]at this;exact this
 simpa using key xs [] k rfl (λ_ h=>h) hk hB
theorem aWv {T:Type} [Inhabited T] {xs ys:List T} {step:Int->Option (LO Int (JO Unit Bool))} {d:T->T->Bool} (hd:∀x∈xs,∀y,d x y=true↔x=y) (hl:xs.length=ys.length)
 (hs:∀i:Nat,i<xs.length->xs.getD i default∈xs->step (i:Int)=some (bif d (xs.getD i default) (ys.getD i default)then .next ((i:Int)+1)else .ret (.out false)))
 (he:step (xs.length:Int)=some (.ret (.go ()))):∃b:Bool,iter step 0=some (.ret (bif b then .go ()else .out false))/\(b=true↔xs=ys):=by
 have key:∀(n k:Nat),k+n=xs.length->∃b:Bool,iter step (k:Int)=some (.ret (bif b then .go ()else .out false))/\(b=true↔xs.drop k=ys.drop k):=by
  intro n;induction n with
  |zero=>intro k hk;have hk:k=xs.length:=(by omega);refine⟨true,by rw[cB,hk,he];rfl,?_⟩;subst hk;simp[hl]
  |succ n ih=>
   intro k hk;have hm:xs.getD k default∈xs:=(by rw[bO (by omega)];exact List.getElem_mem _);have e1:xs.drop k=xs.getD k default::xs.drop (k+1):=(by rw[bO (by omega)];exact List.drop_eq_getElem_cons (by omega));have e2:ys.drop k=ys.getD k default::ys.drop (k+1):=(by rw[bO (by omega)];exact List.drop_eq_getElem_cons (by omega));rw[cB,hs k (by omega) hm,e1,e2];cases hdd:d (xs.getD k default) (ys.getD k default)with
   |true=>obtain⟨b,h1,h2⟩:=ih (k+1) (by omega);refine⟨b,by simpa using h1,?_⟩;rw[h2,(hd _ hm _).1 hdd];simp
   |false=>
    refine⟨false,by simp,?_⟩;have:xs.getD k default≠ys.getD k default:=λe=>by rw[(hd _ hm _).2 e]at hdd;cases hdd
    simp only[List.cons.injEq,Bool.false_eq_true,false_iff];exact λh=>this h.1
 obtain⟨b,h1,h2⟩:=key xs.length 0 (by omega);exact⟨b,by simpa using h1,by simpa using h2⟩
end Go.Proofs.Ytkjabgefacfpfaa
namespace Go.Proofs.Ytkjabgefacfpfaa
set_option linter.all false
section
variable {T σ S R : Type} [Inhabited T]
theorem sO {xs:List T} {step:S->Option (LO S R)} (enc:σ->Int->S) (p:T->Bool) (g:σ->T->σ) (fin:σ->R) (r:R) (Inv:Nat->σ->Prop)
 (hs:∀(i:Nat) x s,(i:Int)<(xs.length:Int)->x∈xs->xs.getD i default=x->Inv i s->step (enc s i)=some (bif p x then .next (enc (g s x) ((i:Int)+1))else .ret r)/\(p x=true->Inv (i+1) (g s x)))
 (he:∀s,Inv xs.length s->step (enc s xs.length)=some (.ret (fin s))) (s:σ) (hi:Inv 0 s):
 iter step (enc s 0)=some (.ret (bif xs.all p then fin (xs.foldl g s)else r))/\(xs.all p=true->Inv xs.length (xs.foldl g s)):=by
 have key:∀(suf pre:List T) (s:σ),xs=pre++suf->Inv pre.length s->iter step (enc s pre.length)=some (.ret (bif suf.all p then fin (suf.foldl g s)else r))/\(suf.all p=true->Inv xs.length (suf.foldl g s)):=by
  intro suf;induction suf with
  |nil=>intro pre s hx hi;rw[List.append_nil]at hx;subst hx;rw[cB,he s hi];exact⟨rfl,λ_=>hi⟩
  |cons x suf ih=>intro pre s hx hi;obtain⟨h1,h2⟩:=hs pre.length x s (by rw[hx];simp;omega) (by rw[hx];simp) (by rw[hx];simp[List.getD]) hi;rw[cB,h1];(cases hp:p x with|false=>simp[List.all_cons,hp]|true=>obtain⟨g1,g2⟩:=ih (pre++[x]) (g s x) (by rw[hx];simp) (by simpa using h2 hp);simp only[List.length_append,List.length_cons,List.length_nil,Nat.zero_add,Int.natCast_add]at g1;simp only[cond_true,List.all_cons,hp,Bool.true_and,List.foldl_cons];exact⟨g1,g2⟩)
 simpa using key xs [] s rfl hi
theorem tH {xs:List T} {step:S->Option (LO S R)} (enc:σ->Int->S) (g:σ->T->σ) (fin:σ->R) (Inv:Nat->σ->Prop)
 (hs:∀(i:Nat) x s,(i:Int)<(xs.length:Int)->x∈xs->xs.getD i default=x->Inv i s->step (enc s i)=some (.next (enc (g s x) ((i:Int)+1)))/\Inv (i+1) (g s x))
 (he:∀s,Inv xs.length s->step (enc s xs.length)=some (.ret (fin s))) (s:σ) (hi:Inv 0 s):
 iter step (enc s 0)=some (.ret (fin (xs.foldl g s)))/\Inv xs.length (xs.foldl g s):=by
 have h:=sO (p:=λ_=>true) enc g fin (fin s) Inv (λi x s h1 h2 h3 h4=>⟨(hs i x s h1 h2 h3 h4).1,λ_=>(hs i x s h1 h2 h3 h4).2⟩) he s hi;have e:xs.all (λ_=>true)=true:=(by simp);rw[e]at h;exact⟨h.1,h.2 rfl⟩
theorem aEs {n:Nat} {step:S->Option (LO S R)} (enc:σ->Int->S) (g:σ->Nat->σ) (fin:σ->R) (Inv:Nat->σ->Prop)
 (hs:∀(i:Nat) s,i<n->Inv i s->step (enc s i)=some (.next (enc (g s i) ((i:Int)+1)))/\Inv (i+1) (g s i))
 (he:∀s,Inv n s->step (enc s n)=some (.ret (fin s))) (s:σ) (hi:Inv 0 s):
 iter step (enc s 0)=some (.ret (fin ((List.range n).foldl g s)))/\Inv n ((List.range n).foldl g s):=by
 have h:=tH (xs:=List.range n) enc g fin Inv (λi x s h1 h2 h3 h4=>by have hi:i<n:=(by simpa using h1);have:x=i:=(by rw[<-h3];simp[List.getD,hi]);subst this;exact hs x s hi h4) (by simpa using he) s hi;simpa using h
theorem vQ {n:Nat} {step:S->Option (LO S R)} (enc:Int->S) (p:Nat->Bool) (a r:R)
 (hs:∀(i:Nat),i<n->step (enc i)=some (bif p i then .next (enc ((i:Int)+1))else .ret r))
 (he:step (enc n)=some (.ret a)):
 iter step (enc 0)=some (.ret (bif (List.range n).all p then a else r)):=by
 have h:=sO (xs:=List.range n) (σ:=Unit) (λ_ k=>enc k) p (λ_ _=>()) (λ_=>a) r (λ_ _=>True) (λi x s h1 h2 h3 h4=>by have hi:i<n:=(by simpa using h1);have:x=i:=(by rw[<-h3];simp[List.getD,hi]);subst this;exact⟨hs x hi,λ_=>trivial⟩) (λs _=>by simpa using he) () trivial;exact h.1
theorem iB {n:Nat} {step:S->Option (LO S R)} (st:Nat->S) (ok:Nat->Bool) (a r:R)
 (hs:∀(i:Nat),i<n->(∀j,j<i->ok j=true)->step (st i)=some (bif ok i then .next (st (i+1))else .ret r))
 (he:(∀j,j<n->ok j=true)->step (st n)=some (.ret a)):
 iter step (st 0)=some (.ret (bif (List.range n).all ok then a else r)):=by
 have key:∀m i,i+m=n->(∀j,j<i->ok j=true)->iter step (st i)=some (.ret (bif (List.range n).all ok then a else r)):=by
  intro m;induction m with
  |zero=>intro i hi ho;have:i=n:=(by omega);subst this;have e:(List.range i).all ok=true:=(by simp only[List.all_eq_true,List.mem_range];exact ho);rw[cB,he ho,e];rfl
  |succ m ih=>intro i hi ho;rw[cB,hs i (by omega) ho];(cases e:ok i with|true=>refine ih (i+1) (by omega) ?_;intro j hj;by_cases h:j=i;{rw[h,e]};{exact ho j (by omega)}|false=>have e2:(List.range n).all ok=false:=(by rw[List.all_eq_false];exact⟨i,by rw[List.mem_range];omega,by rw[e];simp⟩);rw[e2];rfl)
 exact key n 0 (by omega) λj hj=>by omega
end
theorem qK{α β σ:Type}{f:α->List β}{g:σ->β->σ}:∀{xs:List α} {s:σ},xs.foldl (λs x=>(f x).foldl g s) s=(xs.flatMap f).foldl g s
 |[],_=>rfl
 |x::xs,s=>by simp only[List.foldl_cons,List.flatMap_cons,List.foldl_append];exact qK
end Go.Proofs.Ytkjabgefacfpfaa
namespace Go.Proofs.Ytkjabgefacfpfaa
set_option linter.all false
noncomputable instance:DecidableEq DSlot:=λa b=>Classical.propDecidable (a=b)
noncomputable instance:DecidableEq DGuest:=λa b=>Classical.propDecidable (a=b)
noncomputable instance:DecidableEq DHost:=λa b=>Classical.propDecidable (a=b)
structure SmallG (g : DGuest) : Prop where
 c:SmallC g.C
 pages:g.Pages.length<=1048576
 i:g.In.length<=1048576
 o:g.Out.length<=1048576
structure SmallH (h : DHost) : Prop where
 words:h.Words.length<=1048576
 guests:h.Guests.length<=1048576
 all:∀g∈h.Guests,SmallG g
theorem dB{T:Type}[Inhabited T]{xs:List T}{k:Nat}(h:k<xs.length):xs.getD k default∈xs:=by rw[bO h];exact List.getElem_mem _
namespace M
def noCore:DCore:=⟨[],0,0,0,0,false,0,0,0,false,false,false,false⟩
def noGuest:DGuest:=⟨false,noCore,[],[],[]⟩
def slotOk(s:DSlot):Bool:=bif decide (s.Frame=-1)then !s.Write&&!s.Dirty else decide (0<=s.Frame)&&decide (s.Frame<20)
noncomputable def guestOk (g:DGuest):Bool:=bif g.Live then coreOk g.C&&(decide (g.Pages.length=8)&&g.Pages.all slotOk)&&rowOk g.In&&rowOk g.Out else decide (g=noGuest)
def slots(gs:List DGuest):List DSlot:=gs.flatMap (·.Pages)
def many(ss:List DSlot)(f:Int):Nat:=ss.countP λs=>decide (s.Frame=f)
def alone(ss:List DSlot):Bool:=ss.all λs=>!s.Write||decide (many ss s.Frame<=1)
def bump(xs:List Int)(s:DSlot):List Int:=bif decide (s.Frame=-1)then xs else xs.set s.Frame.toNat (xs.getD s.Frame.toNat default+1)
def takers(ss:List DSlot):List Int:=ss.foldl bump (List.replicate 20 0)
noncomputable def hostOk (h:DHost):Bool:=decide (h.Words.length=160)&&wordsOk h.Words&&(decide (h.Guests.length=3)&&h.Guests.all guestOk)&&alone (slots h.Guests)
end M
theorem bGj(s:DSlot):rO s=some (M.slotOk s):=by unfold rO M.slotOk;by_cases h:s.Frame=-1;{rw[decide_eq_true h];cases s.Write<;>rfl};{rw[decide_eq_false h];simp only[cond_false];exact vC}
theorem bEv{xs:List DSlot}(h:xs.length<=9223372036854775806):qB xs=some (decide (xs.length=8)&&xs.all M.slotOk):=by unfold qB;by_cases hl:xs.length=8;{have:decide (((xs.length:Nat):Int)=8)=true:=(by simp;omega);rw[this,Bool.not_true,cond_false,uQ bGj h (wW xs) (λk=>rfl),decide_eq_true hl];cases xs.all M.slotOk<;>rfl};{have:decide (((xs.length:Nat):Int)=8)=false:=(by simp;omega);rw[this,decide_eq_false hl];rfl}
theorem dbe{a b:Bool}(h:a=true↔b=true):a=b:=Bool.eq_iff_iff.2 h
theorem bAn(c:DCore):oJ c=some (decide (c=M.noCore)):=by obtain⟨a1,a2,a3,a4,a5,a6,a7,a8,a9,a10,a11,a12,a13⟩:=c;unfold oJ;simp only[];by_cases h2:a2=0;{by_cases h3:a3=0;{by_cases h4:a4=0;{by_cases h5:a5=0;{by_cases h1:a1=[];{by_cases h8:a8=0;{by_cases h7:a7=0;{by_cases h9:a9=0;{subst h1 h2 h3 h4 h5 h7 h8 h9;cases a6<;>cases a10<;>cases a11<;>cases a12<;>cases a13<;>simp[M.noCore]};{rw[decide_eq_false (p:=DCore.mk _ _ _ _ _ _ _ _ _ _ _ _ _=M.noCore) (by simp[M.noCore,h9])];simp only[decide_eq_false h9];cases a6<;>cases a10<;>cases a11<;>cases a12<;>simp}};{rw[decide_eq_false (p:=DCore.mk _ _ _ _ _ _ _ _ _ _ _ _ _=M.noCore) (by simp[M.noCore,h7])];simp only[decide_eq_false h7];cases a6<;>cases a10<;>cases a11<;>cases a12<;>simp}};{rw[decide_eq_false (p:=DCore.mk _ _ _ _ _ _ _ _ _ _ _ _ _=M.noCore) (by simp[M.noCore,h8])];simp only[decide_eq_false h8];cases a6<;>cases a10<;>cases a11<;>cases a12<;>simp}};{rw[decide_eq_false (p:=DCore.mk _ _ _ _ _ _ _ _ _ _ _ _ _=M.noCore) (by simp[M.noCore,h1])];have:decide (((a1.length:Nat):Int)=0)=false:=(by simp[h1]);simp only[this];cases a6<;>cases a10<;>cases a11<;>cases a12<;>simp}};{rw[decide_eq_false (p:=DCore.mk _ _ _ _ _ _ _ _ _ _ _ _ _=M.noCore) (by simp[M.noCore,h5])];simp only[decide_eq_false h5];cases a6<;>cases a10<;>cases a11<;>cases a12<;>simp}};{rw[decide_eq_false (p:=DCore.mk _ _ _ _ _ _ _ _ _ _ _ _ _=M.noCore) (by simp[M.noCore,h4])];simp only[decide_eq_false h4];cases a6<;>cases a10<;>cases a11<;>cases a12<;>simp}};{rw[decide_eq_false (p:=DCore.mk _ _ _ _ _ _ _ _ _ _ _ _ _=M.noCore) (by simp[M.noCore,h3])];simp only[decide_eq_false h3];cases a6<;>cases a10<;>cases a11<;>cases a12<;>simp}};{rw[decide_eq_false (p:=DCore.mk _ _ _ _ _ _ _ _ _ _ _ _ _=M.noCore) (by simp[M.noCore,h2])];simp only[decide_eq_false h2];cases a6<;>cases a10<;>cases a11<;>cases a12<;>simp}
theorem aTh{g:DGuest}(hl:g.Live=false):mC g=some (decide (g=M.noGuest)):=by unfold mC;rw[bAn,Option.bind_some];obtain⟨l,c,p,i,o⟩:=g;simp only at hl;subst hl;simp only[M.noGuest,DGuest.mk.injEq,true_and];by_cases h1:c=M.noCore<;>by_cases h2:p=[]<;>by_cases h3:i=[]<;>by_cases h4:o=[]<;>simp[h1,h2,h3,h4]
theorem bMz{g:DGuest}(hl:g.Live=false):nV g=some (decide (g=M.noGuest)):=by
 unfold nV;obtain⟨l,⟨a1,a2,a3,a4,a5,a6,a7,a8,a9,a10,a11,a12,a13⟩,p,i,o⟩:=g;simp only at hl;subst hl;simp only[bKf rfl,vC];congr 1;apply dbe;simp only[Bool.and_eq_true,decide_eq_true_eq,Bool.not_eq_true',M.noGuest,M.noCore,DGuest.mk.injEq,DCore.mk.injEq,true_and,Int.natCast_eq_zero,List.length_eq_zero_iff];constructor
 · rintro⟨h1,h2,h3,h4,h5,h6,h7,h8,h9,h10,h11,h12,h13,h14,h15,h16⟩;exact⟨⟨h1,h2,h3,h4,h5,h6,h7,h8,h9,h10,h11,h12,h13⟩,h14,h15,h16⟩
 · rintro⟨⟨h1,h2,h3,h4,h5,h6,h7,h8,h9,h10,h11,h12,h13⟩,h14,h15,h16⟩;exact⟨h1,h2,h3,h4,h5,h6,h7,h8,h9,h10,h11,h12,h13,h14,h15,h16⟩
theorem bDo{g:DGuest}(h:SmallG g):mM g=some (M.guestOk g):=by have:=h.c.regs;have:=h.pages;have:=h.i;have:=h.o;unfold mM M.guestOk;(cases hl:g.Live with|false=>simp only[Bool.not_false,cond_true,aTh hl,Option.bind_some,cond_false]|true=>simp only[Bool.not_true,cond_false,cond_true];rw[bFe (by omega),bEv (by omega),aXt (by omega),aXt (by omega)];simp only[Option.bind_some];cases M.coreOk g.C<;>cases(decide (g.Pages.length=8)&&g.Pages.all M.slotOk)<;>cases M.rowOk g.In<;>rfl)
theorem bBj{gs:List DGuest}(hl:gs.length<=1048576)(h:∀g∈gs,SmallG g):oQ gs=some (decide (gs.length=3)&&gs.all M.guestOk):=by
 unfold oQ;by_cases hl:gs.length=3
 · have:decide (((gs.length:Nat):Int)=3)=true:=by simp;omega
   rw[this,Bool.not_true,cond_false,decide_eq_true hl,Bool.true_and]
   have key:=(sO (xs:=gs) (σ:=Unit) (step:=lE gs) (λ_ k=>k) M.guestOk (λ_ _=>()) (λ_=>JO.go ()) (.out false) (λ_ _=>True) (λi x s h1 h2 h3 h4=>by
    refine⟨?_,λ_=>trivial⟩;simp only[lE,decide_eq_true h1,cond_true];rw[aD ⟨by omega,h1⟩,Int.toNat_natCast,h3];show Option.bind (mM x) _=_;rw[bDo (h x h2),Option.bind_some,aC (by omega) (by omega)];cases M.guestOk x<;>rfl) (λs _=>by
    simp only[lE];rw[decide_eq_false (by omega),cond_false]) () trivial).1
   rw[key];cases gs.all M.guestOk<;>rfl
 {have:decide (((gs.length:Nat):Int)=3)=false:=(by simp;omega);rw[this,decide_eq_false hl];rfl}
theorem bJc{xs:List Int}{i j:Nat}{v:Int}(hi:i<xs.length):(xs.set i v).getD j default=if i=j then v else xs.getD j default:=by by_cases h:i=j;{subst h;simp[List.getD,hi]};{simp[List.getD,List.getElem?_set,h]}
theorem aVm{xs:List Int}{s:DSlot}:(M.bump xs s).length=xs.length:=by unfold M.bump;cases decide (s.Frame=-1)<;>simp
theorem cD{s:DSlot}(h:M.slotOk s=true):-1<=s.Frame/\s.Frame<20:=by unfold M.slotOk at h;by_cases e:s.Frame=-1;{omega};{rw[decide_eq_false e,cond_false,Bool.and_eq_true,decide_eq_true_eq,decide_eq_true_eq]at h;omega}
theorem aRh{xs:List Int}{s:DSlot}(hl:xs.length=20)(h:M.slotOk s=true){f:Nat}(hf:f<20):(M.bump xs s).getD f default=xs.getD f default+(if s.Frame=(f:Int)then 1 else 0):=by have hr:=cD h;unfold M.bump;by_cases e:s.Frame=-1;{rw[decide_eq_true e,cond_true,if_neg (by omega)];omega};{rw[decide_eq_false e,cond_false,bJc (by omega)];by_cases e2:s.Frame=(f:Int);{rw[if_pos (by omega),if_pos e2];congr 2;omega};{rw[if_neg (by omega),if_neg e2];omega}}
theorem aFj{s:DSlot}{ss:List DSlot}{f:Int}:M.many (s::ss) f=M.many ss f+(if s.Frame=f then 1 else 0):=by simp only[M.many,List.countP_cons,decide_eq_true_eq]
theorem aFu{f:Nat}(hf:f<20):∀{ss:List DSlot} {xs:List Int},xs.length=20->ss.all M.slotOk=true->(ss.foldl M.bump xs).length=20/\(ss.foldl M.bump xs).getD f default=xs.getD f default+(M.many ss f:Int)
 |[],xs,hl,_=>⟨hl,by simp[M.many]⟩
 |s::ss,xs,hl,h=>by rw[List.all_cons,Bool.and_eq_true]at h;obtain⟨h1,h2⟩:=aFu hf (ss:=ss) (xs:=M.bump xs s) (by rw[aVm,hl]) h.2;refine⟨h1,?_⟩;rw[List.foldl_cons,h2,aRh hl h.1 hf,aFj];split<;>simp<;>omega
theorem lH{ss:List DSlot}(h:ss.all M.slotOk=true):(M.takers ss).length=20:=(aFu (f:=0) (by omega) (xs:=List.replicate 20 0) (by simp) h).1
theorem jG{ss:List DSlot}(h:ss.all M.slotOk=true){f:Nat}(hf:f<20):(M.takers ss).getD f default=(M.many ss f:Int):=by unfold M.takers;rw[(aFu (f:=f) hf (xs:=List.replicate 20 0) (by simp) h).2];have:(List.replicate 20 (0:Int)).getD f default=0:=(by rw[bO (by rw[List.length_replicate];omega),List.getElem_replicate]);omega
theorem dC{g:DGuest}(h:M.guestOk g=true):g.Pages.all M.slotOk=true/\g.Pages.length<=8:=by unfold M.guestOk at h;(cases hl:g.Live with|true=>rw[hl,cond_true]at h;simp only[Bool.and_eq_true,decide_eq_true_eq]at h;exact⟨h.1.1.2.2,by omega⟩|false=>rw[hl,cond_false,decide_eq_true_eq]at h;rw[h];exact⟨rfl,by simp[M.noGuest]⟩)
theorem dA{gs:List DGuest}(h:gs.all M.guestOk=true):(M.slots gs).all M.slotOk=true:=by simp only[M.slots,List.all_flatMap,List.all_eq_true]at h ⊢;exact λg hg=>List.all_eq_true.1 (dC (h g hg)).1
structure Tl (B : Nat) (xs : List Int) : Prop where
 len:xs.length=20
 low:∀i,i<20->0<=xs.getD i default
 top:∀i,i<20->xs.getD i default<=(B:Int)
theorem Tl.mono{B C:Nat}{xs:List Int}(h:Tl B xs)(hB:B<=C):Tl C xs:=⟨h.len,h.low,λi hi=>by have:=h.top i hi;omega⟩
theorem Tl.bump{B:Nat}{xs:List Int}{s:DSlot}(h:Tl B xs)(hs:M.slotOk s=true):Tl (B+1) (M.bump xs s):=by refine⟨by rw[aVm,h.len],λi hi=>?_,λi hi=>?_⟩;all_goals rw[aRh h.len hs hi];have:=h.low i hi;have:=h.top i hi;split<;>omega
theorem Tl.zero:Tl 0 (List.replicate 20 0):=by refine⟨by simp,λi hi=>?_,λi hi=>?_⟩;all_goals rw[bO (by rw[List.length_replicate];omega),List.getElem_replicate];omega
end Go.Proofs.Ytkjabgefacfpfaa
namespace Go.Proofs.Ytkjabgefacfpfaa
set_option linter.all false
theorem aZf{xs:List DSlot}(h:xs.length<=1048576):qL xs=some xs:=by
 have key:=aHg (xs:=xs) (ys:=List.replicate (Int.toNat (xs.length:Int)) (DSlot.mk 0 false false)) (step:=mB xs) (by simp) (λk zs hk hz=>by
  have h1:(k:Int)<(xs.length:Int):=(by omega);simp only[mB,decide_eq_true h1,cond_true,hz];rw[aD ⟨by omega,h1⟩,Int.toNat_natCast];show Option.bind (some (xs.getD k default)) _=_;rw[Option.bind_some,aD ⟨by omega,h1⟩,aC (by omega) (by omega)]) (λzs hz=>by
  simp only[mB];rw[decide_eq_false (by omega),cond_false])
 unfold qL;rw[aD ⟨by omega,by omega,by omega⟩,key];rfl
theorem aZe{g:DGuest}(h:SmallG g):mT g=some g:=by unfold mT;rw[bDa h.c,aZf h.pages,aAr h.i,aAr h.o];rfl
theorem aWg{xs:List DGuest}(h:xs.length<=1048576)(hs:∀g∈xs,SmallG g):oK xs=some xs:=by
 have key:=aHg (xs:=xs) (ys:=List.replicate (Int.toNat (xs.length:Int)) (DGuest.mk false (DCore.mk ([]:List Int) (0:Int) (0:Int) (0:Int) (0:Int) false (0:Int) (0:Int) (0:Int) false false false false) ([]:List DSlot) ([]:List Int) ([]:List Int))) (step:=lS xs) (by simp) (λk zs hk hz=>by
  have h1:(k:Int)<(xs.length:Int):=(by omega);simp only[lS,decide_eq_true h1,cond_true,hz];rw[aD ⟨by omega,h1⟩,Int.toNat_natCast];show Option.bind (mT (xs.getD k default)) _=_;rw[aZe (hs _ (dB hk)),Option.bind_some,aD ⟨by omega,h1⟩,aC (by omega) (by omega)]) (λzs hz=>by
  simp only[lS];rw[decide_eq_false (by omega),cond_false])
 unfold oK;rw[aD ⟨by omega,by omega,by omega⟩,key];rfl
theorem aQa{h:DHost}(hs:SmallH h):dF h=some h:=by unfold dF;rw[aAr hs.words,aWg hs.guests hs.all];rfl
theorem bDy{a b:DSlot}:nW a b=some (decide (a=b)):=by obtain⟨f,w,d⟩:=a;obtain⟨f',w',d'⟩:=b;unfold nW;simp only[DSlot.mk.injEq];by_cases h:f=f'<;>cases w<;>cases w'<;>cases d<;>cases d'<;>simp[h]
theorem aZo{xs ys:List DSlot}(h:xs.length<=9223372036854775806):qP xs ys=some (decide (xs=ys)):=by
 unfold qP;by_cases hl:xs.length=ys.length
 · obtain⟨b,h1,h2⟩:=aWv (xs:=xs) (ys:=ys) (step:=mI xs ys) (d:=λx y=>decide (x=y)) (λx _ y=>decide_eq_true_iff) hl (λi hi _=>by
    have e1:(i:Int)<(xs.length:Int):=(by omega);simp only[mI,decide_eq_true e1,cond_true];rw[aD ⟨by omega,e1⟩,aD ⟨by omega,by omega⟩,Int.toNat_natCast];show Option.bind (nW (xs.getD i default) (ys.getD i default)) _=_;rw[bDy,Option.bind_some,aC (by omega) (by omega)];cases decide (xs.getD i default=ys.getD i default)<;>rfl) (by
    simp only[mI];rw[decide_eq_false (by omega),cond_false])
   rw[h1,decide_eq_true (by omega)];have e:decide (xs=ys)=b:=(by rw[Bool.eq_iff_iff,decide_eq_true_iff];exact h2.symm);rw[e];cases b<;>rfl
 {rw[decide_eq_false (by omega),decide_eq_false (λe=>hl (by rw[e]))];rfl}
theorem bBh{a b:DGuest}(h:SmallG a):mP a b=some (decide (a=b)):=by have:=h.c.regs;have:=h.pages;have:=h.i;have:=h.o;unfold mP;rw[bEj (by omega),aZo (by omega),aAk (by omega),aAk (by omega)];obtain⟨l,c,p,i,o⟩:=a;obtain⟨l',c',p',i',o'⟩:=b;simp only[Option.bind_some,DGuest.mk.injEq];by_cases h1:c=c'<;>by_cases h2:p=p'<;>by_cases h3:i=i'<;>by_cases h4:o=o'<;>cases l<;>cases l'<;>simp[*]
theorem aVz{xs ys:List DGuest}(h:xs.length<=1048576)(hs:∀g∈xs,SmallG g):oP xs ys=some (decide (xs=ys)):=by
 unfold oP;by_cases hl:xs.length=ys.length
 · obtain⟨b,h1,h2⟩:=aWv (xs:=xs) (ys:=ys) (step:=lV xs ys) (d:=λx y=>decide (x=y)) (λx _ y=>decide_eq_true_iff) hl (λi hi hm=>by
    have e1:(i:Int)<(xs.length:Int):=(by omega);simp only[lV,decide_eq_true e1,cond_true];rw[aD ⟨by omega,e1⟩,aD ⟨by omega,by omega⟩,Int.toNat_natCast];show Option.bind (mP (xs.getD i default) (ys.getD i default)) _=_;rw[bBh (hs _ hm),Option.bind_some,aC (by omega) (by omega)];cases decide (xs.getD i default=ys.getD i default)<;>rfl) (by
    simp only[lV];rw[decide_eq_false (by omega),cond_false])
   rw[h1,decide_eq_true (by omega)];have e:decide (xs=ys)=b:=(by rw[Bool.eq_iff_iff,decide_eq_true_iff];exact h2.symm);rw[e];cases b<;>rfl
 {rw[decide_eq_false (by omega),decide_eq_false (λe=>hl (by rw[e]))];rfl}
theorem aAi{a b:DHost}(h:SmallH a):dE a b=some (decide (a=b)):=by have:=h.words;unfold dE;rw[aAk (by omega),aVz h.guests h.all];obtain⟨w,g⟩:=a;obtain⟨w',g'⟩:=b;simp only[Option.bind_some,DHost.mk.injEq];by_cases h1:w=w'<;>by_cases h2:g=g'<;>simp[*]
theorem bBm{xs:List DSlot}{left:Int}(h:xs.length<=9223372036854775807)(h0:0<=left)(h1:left<=1048576):qN xs left=some (if(xs.length:Int)<=left then left-xs.length else-1):=by unfold qN;rw[aC (by omega) (by omega)];by_cases hl:(xs.length:Int)<=left;{rw[decide_eq_false (by omega),if_pos hl];rfl};{rw[decide_eq_true (by omega),if_neg hl];rfl}
structure FitG (g : DGuest) : Prop where
 c:g.C.Regs.length<=9223372036854775807
 pages:g.Pages.length<=9223372036854775807
 i:g.In.length<=9223372036854775807
 o:g.Out.length<=9223372036854775807
theorem aZp{g:DGuest}{left:Int}(h:FitG g)(h0:0<=left)(h1:left<=1048576):∃v,mO g left=some v/\(v<0\/(0<=v/\v<=left/\SmallG g)):=by have:=h.c;have:=h.pages;have:=h.i;have:=h.o;unfold mO;rw[bEo (by omega) h0 h1];simp only[Option.bind_some];split;{rename_i e1;rw[decide_eq_false (by omega),cond_false,bBm (by omega) (by omega) (by omega)];simp only[Option.bind_some];split;{rename_i e2;rw[decide_eq_false (by omega),cond_false,aAw (by omega) (by omega) (by omega)];simp only[Option.bind_some];split;{rename_i e3;rw[decide_eq_false (by omega),cond_false,aAw (by omega) (by omega) (by omega)];simp only[Option.bind_some];split;{rename_i e4;rw[decide_eq_false (by omega),cond_false];exact⟨_,rfl,.inr ⟨by omega,by omega,⟨by omega⟩,by omega,by omega,by omega⟩⟩};{exact⟨-1,rfl,.inl (by omega)⟩}};{exact⟨-1,rfl,.inl (by omega)⟩}};{exact⟨-1,rfl,.inl (by omega)⟩}};{exact⟨-1,rfl,.inl (by omega)⟩}
theorem aWd{xs:List DGuest}{left:Int}(hl:xs.length<=9223372036854775807)(h:∀g∈xs,FitG g)(h0:0<=left)(h1:left<=1048576):∃v,oF xs left=some v/\(v<0\/(0<=v/\v<=left/\xs.length<=1048576/\∀g∈xs,SmallG g)):=by
 unfold oF;rw[aC (by omega) (by omega)];by_cases e:left-(xs.length:Int)<0;{rw[decide_eq_true e];exact⟨-1,rfl,.inl (by omega)⟩}
 · rw[decide_eq_false e,cond_false]
   have key:∀(suf pre:List DGuest) (q:Int),xs=pre++suf->0<=q->q<=left->∃j:JO Int Int,iter (iE xs) (q,(pre.length:Int))=some (.ret j)/\(j= .out (-1)\/∃v,j= .go v/\0<=v/\v<=q/\∀g∈suf,SmallG g):=by
    intro suf;induction suf with
    |nil=>intro pre q hx hq _;rw[List.append_nil]at hx;refine⟨.go q,?_,.inr ⟨q,rfl,hq,Int.le_refl _,by simp⟩⟩;rw[cB];simp only[iE];rw[decide_eq_false (by rw[hx];omega),cond_false]
    |cons x suf ih=>intro pre q hx hq hq1;have e1:((pre.length:Nat):Int)<(xs.length:Int):=(by rw[hx];simp;omega);have e2:xs.getD pre.length default=x:=(by rw[hx];exact aJz);obtain⟨v,g1,g2⟩:=aZp (h x (by rw[hx];simp)) hq (by omega);have st:iE xs (q,(pre.length:Int))=cond (decide (v<0)) (some (.ret (.out (-1)))) (some (.next (v,(pre.length:Int)+1))):=(by simp only[iE,decide_eq_true e1,cond_true];rw[aD ⟨by omega,e1⟩,Int.toNat_natCast,e2];show Option.bind (mO x q) _=_;rw[g1,Option.bind_some,aC (by omega) (by omega)]);rw[cB,st];rcases g2 with g2|⟨g2,g3,g4⟩;{rw[decide_eq_true g2];exact⟨_,rfl,.inl rfl⟩};{rw[decide_eq_false (by omega),cond_false];obtain⟨j,k1,k2⟩:=ih (pre++[x]) v (by rw[hx];simp) g2 (by omega);simp only[List.length_append,List.length_cons,List.length_nil,Nat.zero_add,Int.natCast_add]at k1;refine⟨j,k1,k2.imp id λ⟨u,u1,u2,u3,u4⟩=>⟨u,u1,u2,by omega,λg hg=>?_⟩⟩;rcases List.mem_cons.1 hg with rfl|hg;{exact g4};{exact u4 g hg}}
   obtain⟨j,k1,k2⟩:=key xs [] (left-xs.length) rfl (by omega) (by omega);rw[show((([]:List DGuest).length:Nat):Int)=0 from rfl]at k1;rw[k1];rcases k2 with rfl|⟨v,rfl,k3,k4,k5⟩;{exact⟨-1,rfl,.inl (by omega)⟩};{exact⟨v,rfl,.inr ⟨k3,by omega,by omega,k5⟩⟩}
structure FitH (h : DHost) : Prop where
 words:h.Words.length<=9223372036854775807
 guests:h.Guests.length<=9223372036854775807
 all:∀g∈h.Guests,FitG g
theorem aPp{h:DHost}{left:Int}(hf:FitH h)(h0:0<=left)(h1:left<=1048576):∃v,lC h left=some v/\(v<0\/(0<=v/\v<=left/\SmallH h)):=by unfold lC;rw[aAw hf.words h0 h1];simp only[Option.bind_some];split;{rename_i e1;rw[decide_eq_false (by omega),cond_false];obtain⟨v,g1,g2⟩:=aWd hf.guests hf.all (left:=left-h.Words.length) (by omega) (by omega);rw[g1,Option.bind_some];rcases g2 with g2|⟨g2,g3,g4,g5⟩;{rw[decide_eq_true g2];exact⟨-1,rfl,.inl (by omega)⟩};{rw[decide_eq_false (by omega),cond_false];exact⟨v,rfl,.inr ⟨g2,by omega,by omega,g4,g5⟩⟩}};{exact⟨-1,rfl,.inl (by omega)⟩}
end Go.Proofs.Ytkjabgefacfpfaa
namespace Go.Proofs.Ytkjabgefacfpfaa
set_option linter.all false
theorem bIu{xs:List Int}{s:DSlot}{B:Nat}(hs:M.slotOk s=true)(ht:Tl B xs)(hB:B<=1000000000){Y:Type}:(cond (!decide (s.Frame=(-1:Int))) (grd ((0:Int)<=s.Frame/\s.Frame<((xs.length:Nat):Int)) (grd ((0:Int)<=s.Frame/\s.Frame<((xs.length:Nat):Int)) (some (JO.go (List.set xs (Int.toNat s.Frame) (w64 ((List.getD xs (Int.toNat s.Frame) default)+(1:Int)))))))) (some (JO.go xs)):Option (JO (List Int) Y))=some (.go (M.bump xs s)):=by have hr:=cD hs;have hl:=ht.len;unfold M.bump;by_cases e:s.Frame=-1;{rw[decide_eq_true e];rfl};{rw[decide_eq_false e];have h1:=ht.low s.Frame.toNat (by omega);have h2:=ht.top s.Frame.toNat (by omega);rw[Bool.not_false,cond_true,cond_false,aD ⟨by omega,by omega⟩,aD ⟨by omega,by omega⟩,aC (by omega) (by omega)]}
theorem aEd{gs:List DGuest}(hl:gs.length<=1048576)(h:gs.all M.guestOk=true):eJ gs=some (M.takers (M.slots gs)):=by
 have hin:∀(k:Nat) (g:DGuest) (xs:List Int) (h1:(k:Int)<(gs.length:Int)) (h2:g∈gs) (h3:gs.getD k default=g) (h4:Tl (8*k) xs),
  iter (fJ gs (xs,(k:Int))) (xs,0)=some (.ret (.go (g.Pages.foldl M.bump xs)))/\Tl (8*k+g.Pages.length) (g.Pages.foldl M.bump xs):=by
  intro k g xs h1 h2 h3 h4;obtain⟨g1,g2⟩:=dC (List.all_eq_true.1 h g h2)
  exact tH (xs:=g.Pages) (step:=fJ gs (xs,(k:Int))) (λs j=>(s,j)) M.bump (λs=> .go s) (λj s=>Tl (8*k+j) s) (λj x s a1 a2 a3 a4=>by
   refine⟨?_,a4.bump (List.all_eq_true.1 g1 x a2)⟩;simp only[fJ,Int.toNat_natCast,h3,decide_eq_true a1,cond_true];rw[aD ⟨by omega,a1⟩,a3,bIu (List.all_eq_true.1 g1 x a2) a4 (by omega),Option.bind_some];simp only[JO.run,tA];rw[aC (by omega) (by omega)]) (λs _=>by
   simp only[fJ,Int.toNat_natCast,h3];rw[decide_eq_false (by omega),cond_false]) xs h4
 have key:=(tH (xs:=gs) (step:=iM gs) (λs j=>(s,j)) (λs g=>g.Pages.foldl M.bump s) (λs=> .go s) (λk s=>Tl (8*k) s) (λk g s a1 a2 a3 a4=>by
  obtain⟨b1,b2⟩:=hin k g s a1 a2 a3 a4;refine⟨?_,b2.mono (by have:=(dC (List.all_eq_true.1 h g a2)).2;omega)⟩;simp only[iM,decide_eq_true a1,cond_true];rw[aD ⟨by omega,a1⟩,b1];simp only[Option.bind_some,LO.val,JO.run,tC];rw[aC (by omega) (by omega)]) (λs _=>by
  simp only[iM];rw[decide_eq_false (by omega),cond_false]) (List.replicate 20 0) (Tl.zero.mono (by omega))).1
 unfold eJ;rw[show Int.toNat (20:Int)=20 from rfl,key];simp only[Option.bind_some,LO.val,JO.run,tF];rw[qK];rfl
theorem bJs{gs:List DGuest}(hl:gs.length<=1048576)(h:gs.all M.guestOk=true)(hwr:True):hY gs=some (M.alone (M.slots gs)):=by
 unfold hY;rw[aEd hl h,Option.bind_some];have hs:=dA h
 have hin:∀(k:Nat) (g:DGuest) (h1:(k:Int)<(gs.length:Int)) (h2:g∈gs) (h3:gs.getD k default=g),
  iter (eC gs (M.takers (M.slots gs)) (k:Int)) 0=some (.ret (bif g.Pages.all (λs=>!s.Write||decide (M.many (M.slots gs) s.Frame<=1))then .go ()else .out (.ret (.out false)))):=by
  intro k g h1 h2 h3;obtain⟨g1,g2⟩:=dC (List.all_eq_true.1 h g h2)
  exact(sO (xs:=g.Pages) (σ:=Unit) (step:=eC gs (M.takers (M.slots gs)) (k:Int)) (λ_ j=>j) _ (λ_ _=>()) (λ_=>JO.go ()) _ (λ_ _=>True) (λj x s a1 a2 a3 _=>by
   refine⟨?_,λ_=>trivial⟩;have hx:=List.all_eq_true.1 g1 x a2;have hr:=cD hx;simp only[eC,Int.toNat_natCast,h3,decide_eq_true a1,cond_true,a3];rw[aD ⟨by omega,a1⟩];cases hw:x.Write with
   |false=>simp only[cond_false,Option.bind_some,JO.run,jF,Bool.not_false,Bool.true_or,cond_true];rw[aC (by omega) (by omega)]
   |true=>
    have hf:x.Frame≠-1:=λe=>by unfold M.slotOk at hx;rw[decide_eq_true e,hw]at hx;simp at hx
    have hlt:=lH hs;simp only[cond_true];rw[aD ⟨by omega,by omega⟩,jG hs (by omega),show((x.Frame.toNat:Nat):Int)=x.Frame by omega];by_cases e:M.many (M.slots gs) x.Frame<=1;{rw[decide_eq_false (by omega),decide_eq_true e];simp only[cond_false,Option.bind_some,JO.run,jF,Bool.not_true,Bool.false_or,cond_true];rw[aC (by omega) (by omega)]}
    · rw[decide_eq_true (by omega),decide_eq_false e];rfl) (λs _=>by
   simp only[eC,Int.toNat_natCast,h3];rw[decide_eq_false (by omega),cond_false]) () trivial).1
 have key:=(sO (xs:=gs) (σ:=Unit) (step:=fR gs (M.takers (M.slots gs))) (λ_ j=>j) (λg=>g.Pages.all (λs=>!s.Write||decide (M.many (M.slots gs) s.Frame<=1))) (λ_ _=>()) (λ_=>JO.go ()) (.out false) (λ_ _=>True) (λk g s a1 a2 a3 _=>by
  refine⟨?_,λ_=>trivial⟩;simp only[fR,decide_eq_true a1,cond_true];rw[aD ⟨by omega,a1⟩,hin k g a1 a2 a3];cases g.Pages.all (λs=>!s.Write||decide (M.many (M.slots gs) s.Frame<=1))with
  |false=>rfl
  |true=>simp only[cond_true,Option.bind_some,LO.val,JO.run,oO];rw[aC (by omega) (by omega)]) (λs _=>by
  simp only[fR];rw[decide_eq_false (by omega),cond_false]) () trivial).1
 rw[key]
 have e:M.alone (M.slots gs)=gs.all (λg=>g.Pages.all (λs=>!s.Write||decide (M.many (M.slots gs) s.Frame<=1))):=by
  simp only[M.alone]
  conv=>lhs;arg 1;unfold M.slots
  rw[List.all_flatMap]
 rw[e];cases gs.all (λg=>g.Pages.all (λs=>!s.Write||decide (M.many (M.slots gs) s.Frame<=1)))<;>rfl
theorem pU{h:DHost}(hs:SmallH h):dT h=some (M.hostOk h):=by have:=hs.words;unfold dT M.hostOk;by_cases hl:h.Words.length=160;{rw[show decide (((h.Words.length:Nat):Int)=160)=true by simp;omega,cond_true,aGn (by omega),decide_eq_true hl,Option.bind_some];(cases M.wordsOk h.Words with|false=>rfl|true=>rw[cond_true,bBj hs.guests hs.all,Option.bind_some];(cases hg:(decide (h.Guests.length=3)&&h.Guests.all M.guestOk)with|false=>rfl|true=>rw[Bool.and_eq_true]at hg;rw[cond_true,bJs hs.guests hg.2 trivial];rfl))};{rw[show decide (((h.Words.length:Nat):Int)=160)=false by simp;omega,decide_eq_false hl];rfl}
end Go.Proofs.Ytkjabgefacfpfaa
namespace Go.Proofs.Ytkjabgefacfpfaa
set_option linter.all false
theorem bGn{xs:List Int}{n:Int}(h:xs.length<=9223372036854775806):dW xs n=some (decide ((xs.length:Int)<=n)&&M.wordsOk xs):=by unfold dW;rw[uQ zB h (qZ xs) (λk=>rfl)];simp only[M.wordsOk];cases xs.all M.wordOk;{simp[LO.val,JO.run]};{simp only[LO.val,JO.run,Option.bind_some,qY,cond_true,Bool.and_true]}
namespace M
def bumpW(ws:List Bool)(s:DSlot):List Bool:=bif decide (s.Frame=-1)then ws else ws.set s.Frame.toNat (ws.getD s.Frame.toNat default||s.Write)
def bump2(p:List Int×List Bool)(s:DSlot):List Int×List Bool:=(bump p.1 s,bumpW p.2 s)
end M
theorem bHa{xs:List Bool}{i j:Nat}{v:Bool}(hi:i<xs.length):(xs.set i v).getD j default=if i=j then v else xs.getD j default:=by by_cases h:i=j;{subst h;simp[List.getD,hi]};{simp[List.getD,List.getElem?_set,h]}
theorem aPl{xs:List Bool}{s:DSlot}:(M.bumpW xs s).length=xs.length:=by unfold M.bumpW;cases decide (s.Frame=-1)<;>simp
theorem bEw{xs:List Bool}{s:DSlot}(hl:xs.length=20)(h:M.slotOk s=true){f:Nat}(hf:f<20):(M.bumpW xs s).getD f default=(xs.getD f default||(decide (s.Frame=(f:Int))&&s.Write)):=by have hr:=cD h;unfold M.bumpW;by_cases e:s.Frame=-1;{rw[decide_eq_true e,cond_true,decide_eq_false (by omega)];simp};{rw[decide_eq_false e,cond_false,bHa (by omega)];by_cases e2:s.Frame=(f:Int);{rw[if_pos (by omega),decide_eq_true e2,Bool.true_and];congr 2;omega};{rw[if_neg (by omega),decide_eq_false e2];simp}}
theorem aPi:∀{ss:List DSlot} {p:List Int×List Bool},(ss.foldl M.bump2 p).1=ss.foldl M.bump p.1
 |[],_=>rfl
 |s::ss,p=>by rw[List.foldl_cons,aPi];rfl
theorem aPg{f:Nat}(hf:f<20):∀{ss:List DSlot} {p:List Int×List Bool},p.2.length=20->ss.all M.slotOk=true->(ss.foldl M.bump2 p).2.length=20/\(ss.foldl M.bump2 p).2.getD f default=(p.2.getD f default||ss.any λs=>decide (s.Frame=(f:Int))&&s.Write)
 |[],p,hl,_=>⟨hl,by simp⟩
 |s::ss,p,hl,h=>by rw[List.all_cons,Bool.and_eq_true]at h;obtain⟨h1,h2⟩:=aPg hf (ss:=ss) (p:=M.bump2 p s) (by simpa[M.bump2,aPl]using hl) h.2;refine⟨h1,?_⟩;rw[List.foldl_cons,h2,List.any_cons];simp only[M.bump2];rw[bEw hl h.1 hf,Bool.or_assoc]
structure Tw (B : Nat) (p : List Int × List Bool) : Prop where
 tl:Tl B p.1
 len:p.2.length=20
theorem Tw.bump{B:Nat}{p:List Int×List Bool}{s:DSlot}(h:Tw B p)(hs:M.slotOk s=true):Tw (B+1) (M.bump2 p s):=⟨h.tl.bump hs,by simp[M.bump2,aPl,h.len]⟩
theorem aYk{h:DHost}{k:Nat}{g:DGuest}{p:List Int×List Bool}{B:Nat}(hl:g.Pages.length<=8)(h3:h.Guests.getD k default=g)(ht:Tw B p)(hB:B<=1000000):
 iter (iV h (p.1,p.2,(k:Int))) (p.1,p.2,0)=some (.ret (bif g.Pages.all M.slotOk then .go ((g.Pages.foldl M.bump2 p).1,(g.Pages.foldl M.bump2 p).2)else .out (.ret (.out false))))/\(g.Pages.all M.slotOk=true->Tw (B+g.Pages.length) (g.Pages.foldl M.bump2 p)):=by
 exact sO (xs:=g.Pages) (step:=iV h (p.1,p.2,(k:Int))) (λs j=>(s.1,s.2,j)) M.slotOk M.bump2 (λs=> .go (s.1,s.2)) (.out (.ret (.out false))) (λj s=>Tw (B+j) s) (λj x s a1 a2 a3 a4=>by
  refine⟨?_,λhx=>a4.bump hx⟩;simp only[iV,Int.toNat_natCast,h3,decide_eq_true a1,cond_true,a3];rw[aD ⟨by omega,a1⟩,aCm,Option.bind_some];have hgo:M.slotOk x=true->rD h (p.1,p.2,(k:Int)) (s.1,s.2,(j:Int)) ()=some (.go ((M.bump2 s x).2,(M.bump2 s x).1)):=λhx=>by have hr:=cD hx;have hl1:=a4.tl.len;have hl2:=a4.len;simp only[rD,Int.toNat_natCast,h3,a3,M.bump2,M.bump,M.bumpW];by_cases e:x.Frame=-1;{rw[decide_eq_false (p:=(0:Int)<=x.Frame) (by omega),decide_eq_true e];rfl};{have q1:=a4.tl.low x.Frame.toNat (by omega);have q2:=a4.tl.top x.Frame.toNat (by omega);rw[decide_eq_true (p:=(0:Int)<=x.Frame) (by omega),decide_eq_false e];simp only[cond_true,cond_false];rw[aD ⟨by omega,by omega⟩,aD ⟨by omega,by omega⟩,aD ⟨by omega,by omega⟩,aC (by omega) (by omega)];(cases hw:s.2.getD x.Frame.toNat default with|true=>rw[cond_true,aD ⟨by omega,by omega⟩,Bool.true_or]|false=>rw[cond_false,aD ⟨by omega,by omega⟩,Bool.false_or])}
  by_cases e:x.Frame=-1;{have hin:M.inR (-1) 19 x.Frame=true:=(by rw[M.inR_iff];omega);rw[hin,Bool.not_true,cond_false,decide_eq_true e,cond_true];(cases hw:x.Write with|true=>have:M.slotOk x=false:=(by unfold M.slotOk;rw[decide_eq_true e,hw];rfl);rw[this];rfl|false=>(cases hd:x.Dirty with|true=>have:M.slotOk x=false:=(by unfold M.slotOk;rw[decide_eq_true e,hw,hd];rfl);rw[this];rfl|false=>have hx:M.slotOk x=true:=(by unfold M.slotOk;rw[decide_eq_true e,hw,hd];rfl);rw[hx];simp only[cond_false,Option.bind_some,JO.run,hgo hx,rC,cond_true];rw[aC (by omega) (by omega)]))}
  · by_cases hin:M.inR (-1) 19 x.Frame=true
    {have hr:=M.inR_iff.1 hin;have hx:M.slotOk x=true:=(by unfold M.slotOk;rw[decide_eq_false e,cond_false,Bool.and_eq_true,decide_eq_true_eq,decide_eq_true_eq];omega);rw[hin,Bool.not_true,cond_false,decide_eq_false e,cond_false,hx];simp only[Option.bind_some,JO.run,hgo hx,rC,cond_true];rw[aC (by omega) (by omega)]}
    · have hn:¬(-1<=x.Frame/\x.Frame<=19):=λc=>hin (M.inR_iff.2 c);have hx:M.slotOk x=false:=(by(cases hh:M.slotOk x with|false=>rfl|true=>have:=cD hh;omega));rw[Bool.eq_false_iff.2 hin,hx];rfl) (λs _=>by
  simp only[iV,Int.toNat_natCast,h3];rw[decide_eq_false (by omega),cond_false]) p ht
theorem bHc{h:DHost}(hs:SmallH h)(hl:h.Guests.length=3):
 iter (kG h) (List.replicate 20 0,List.replicate 20 false,0)=some (.ret (bif h.Guests.all M.guestOk then .go (((M.slots h.Guests).foldl M.bump2 (List.replicate 20 0,List.replicate 20 false)).1,((M.slots h.Guests).foldl M.bump2 (List.replicate 20 0,List.replicate 20 false)).2)else .out false)):=by
 have key:=(sO (xs:=h.Guests) (step:=kG h) (λ(s:List Int×List Bool) j=>(s.1,s.2,j)) M.guestOk (λs g=>g.Pages.foldl M.bump2 s) (λs=>JO.go (s.1,s.2)) (.out false) (λj s=>Tw (8*j) s) (λk g s a1 a2 a3 a4=>by
  have hg:=hs.all g a2;have:=hg.c.regs;have:=hg.pages;have:=hg.i;have:=hg.o;refine⟨?_,λhx=>?_⟩;{simp only[kG,Int.toNat_natCast,decide_eq_true a1,cond_true,a3];rw[aD ⟨by omega,a1⟩];(cases hlv:g.Live with|false=>have e:nV (DGuest.mk false (DCore.mk g.C.Regs g.C.Pc g.C.Root g.C.Vector g.C.Saved g.C.SavedUser g.C.Cause g.C.Bad g.C.Timer g.C.Waits g.C.User g.C.On g.C.Stopped) g.Pages g.In g.Out)=some (decide (g=M.noGuest)):=(by have:=bMz hlv;obtain⟨l,c,p,i,o⟩:=g;simp only at hlv;subst hlv;exact this);rw[Bool.not_false,cond_true,e,Option.bind_some];have e2:M.guestOk g=decide (g=M.noGuest):=(by unfold M.guestOk;rw[hlv];rfl);rw[e2];by_cases hz:g=M.noGuest;{rw[decide_eq_true hz,hz];simp only[Bool.not_true,cond_false,Option.bind_some,JO.run,sC,cond_true,M.noGuest,List.foldl_nil];rw[aC (by omega) (by omega)]};{rw[decide_eq_false hz];rfl}|true=>rw[Bool.not_true,cond_false];have e2:M.guestOk g=(M.coreOk g.C&&(decide (g.Pages.length=8)&&g.Pages.all M.slotOk)&&M.rowOk g.In&&M.rowOk g.Out):=(by unfold M.guestOk;rw[hlv];rfl);show Option.bind (Option.bind (kZ g.C) _) _=_;rw[aRq (by omega),Option.bind_some,e2];(cases hc:M.coreOk g.C with|false=>rfl|true=>rw[Bool.not_true,cond_false,Bool.true_and];by_cases hp:g.Pages.length=8;{rw[decide_eq_true hp,show decide (((g.Pages.length:Nat):Int)=8)=true by simp;omega,Bool.not_true,cond_false,aHx (by omega),Option.bind_some,aHx (by omega)];(cases hri:M.rowOk g.In with|false=>simp[JO.run]|true=>rw[Bool.not_true,cond_false,Option.bind_some];(cases hro:M.rowOk g.Out with|false=>simp[JO.run]|true=>rw[Bool.not_true,cond_false,(aYk (by omega) a3 a4 (by omega)).1];(cases hpp:g.Pages.all M.slotOk with|false=>rfl|true=>simp only[cond_true,Option.bind_some,LO.val,JO.run,sC,Bool.and_self];rw[aC (by omega) (by omega)])))};{rw[decide_eq_false hp,show decide (((g.Pages.length:Nat):Int)=8)=false by simp;omega];rfl}))}
  · obtain⟨q1,q2⟩:=dC hx;have:=(aYk q2 a3 a4 (by omega)).2 q1;exact⟨this.tl.mono (by omega),this.len⟩) (λs _=>by
  simp only[kG];rw[decide_eq_false (by omega),cond_false]) (List.replicate 20 0,List.replicate 20 false) ⟨Tl.zero.mono (by omega),by simp⟩).1
 rw[qK]at key;exact key
theorem bIx{ss:List DSlot}(h:ss.all M.slotOk=true):((List.range 20).all λf=>!(decide (1<M.many ss (f:Int))&&ss.any λs=>decide (s.Frame=(f:Int))&&s.Write))=M.alone ss:=by
 apply dbe;simp only[M.alone,List.all_eq_true,List.mem_range,Bool.not_eq_true',Bool.and_eq_false_iff,decide_eq_false_iff_not,List.any_eq_false,Bool.and_eq_true,decide_eq_true_eq,Bool.or_eq_true,not_and];constructor
 · intro q s hs
   cases hw:s.Write with
   |false=>exact .inl rfl
   |true=>
    have hx:=List.all_eq_true.1 h s hs;have hr:=cD hx;have hf:s.Frame≠-1:=λe=>by unfold M.slotOk at hx;rw[decide_eq_true e,hw]at hx;simp at hx
    rcases q s.Frame.toNat (by omega)with q|q;{rw[show((s.Frame.toNat:Nat):Int)=s.Frame by omega]at q;exact .inr (by omega)};{exact absurd hw (by simpa using q s hs (by omega))}
 {intro q f hf;by_cases hm:1<M.many ss (f:Int);{refine .inr λs hs e=>?_;rcases q s hs with q|q;{simp[q]};{rw[e]at q;omega}};{exact .inl hm}}
theorem zK{h:DHost}(hs:SmallH h):gH h=some (M.hostOk h):=by
 have:=hs.words;unfold gH M.hostOk;rw[bGn (by omega),Option.bind_some];by_cases hl:h.Words.length=160
 · rw[decide_eq_true (p:=(h.Words.length:Int)<=160) (by omega),decide_eq_true hl]
   cases M.wordsOk h.Words with
   |false=>rfl
   |true=>
    rw[Bool.true_and,Bool.not_true,cond_false,decide_eq_true (p:=((h.Words.length:Nat):Int)=160) (by omega),Bool.not_true,cond_false];by_cases hg:h.Guests.length=3
    · rw[decide_eq_true hg,decide_eq_true (p:=((h.Guests.length:Nat):Int)=3) (by omega),Bool.not_true,cond_false]
      rw[show Int.toNat (20:Int)=20 from rfl,bHc hs hg];cases ha:h.Guests.all M.guestOk with
      |false=>rfl
      |true=>
       have hsl:=dA ha;simp only[cond_true,Option.bind_some,LO.val,JO.run,zG,Bool.true_and];rw[aPi]
       have key:=vQ (n:=20) (step:=nA ((M.slots h.Guests).foldl M.bump (List.replicate 20 0),((M.slots h.Guests).foldl M.bump2 (List.replicate 20 0,List.replicate 20 false)).2)) (λk=>k) (λf=>!(decide (1<M.many (M.slots h.Guests) (f:Int))&&(M.slots h.Guests).any λs=>decide (s.Frame=(f:Int))&&s.Write)) (JO.go ()) (.out false) (λi hi=>by
        have q1:=jG hsl hi;have q2:=lH hsl;obtain⟨q3,q4⟩:=aPg hi (p:=(List.replicate 20 0,List.replicate 20 false)) (by simp) hsl;unfold M.takers at q1 q2;simp only[nA,Int.toNat_natCast];have e0:decide ((1:Int)<(List.foldl M.bump (List.replicate 20 0) (M.slots h.Guests)).getD i default)=decide (1<M.many (M.slots h.Guests) (i:Int)):=(by rw[decide_eq_decide,q1];omega);rw[decide_eq_true (p:=(i:Int)<20) (by omega),cond_true,aD ⟨by omega,by omega⟩,e0,q4];rw[show(List.replicate 20 false).getD i default=false by rw[bO (by rw[List.length_replicate];omega),List.getElem_replicate],Bool.false_or];by_cases e:1<M.many (M.slots h.Guests) (i:Int)
        · rw[decide_eq_true e,cond_true,aD ⟨by omega,by omega⟩]
          cases(M.slots h.Guests).any λs=>decide (s.Frame=(i:Int))&&s.Write with
          |true=>rfl
          |false=>simp only[cond_false,Option.bind_some,JO.run,sJ,Bool.and_false,Bool.not_false,cond_true];rw[aC (by omega) (by omega)]
        · rw[decide_eq_false e];simp only[cond_false,Option.bind_some,JO.run,sJ,Bool.false_and,Bool.not_false,cond_true];rw[aC (by omega) (by omega)]) (by
        simp only[nA];rfl)
       rw[key,bIx hsl];cases M.alone (M.slots h.Guests)<;>rfl
    {rw[decide_eq_false hg,decide_eq_false (p:=((h.Guests.length:Nat):Int)=3) (by omega)];rfl}
 {rw[decide_eq_false hl,decide_eq_false (p:=((h.Words.length:Nat):Int)=160) (by omega)];cases(decide ((h.Words.length:Int)<=160)&&M.wordsOk h.Words)<;>rfl}
end Go.Proofs.Ytkjabgefacfpfaa
namespace Go.Proofs.Ytkjabgefacfpfaa
set_option linter.all false
structure HOk (h : DHost) : Prop where
 len:h.Words.length=160
 words:M.wordsOk h.Words=true
 three:h.Guests.length=3
 all:h.Guests.all M.guestOk=true
 alone:M.alone (M.slots h.Guests)=true
theorem dJ{h:DHost}:M.hostOk h=true↔HOk h:=by unfold M.hostOk;simp only[Bool.and_eq_true,decide_eq_true_eq];exact⟨λ⟨⟨⟨a,b⟩,c,d⟩,e⟩=>⟨a,b,c,d,e⟩,λh=>⟨⟨⟨h.len,h.words⟩,h.three,h.all⟩,h.alone⟩⟩
end Go.Proofs.Ytkjabgefacfpfaa
namespace Go.Proofs.Ytkjabgefacfpfaa
set_option linter.all false
namespace M
noncomputable def there (h:DHost)(g:Int):Bool:=hostOk h&&(inR 0 2 g&&(h.Guests.getD g.toNat default).Live)
end M
theorem bCm{h:DHost}{g:Int}:M.there h g=true↔HOk h/\0<=g/\g<=2/\(h.Guests.getD g.toNat default).Live=true:=by unfold M.there;rw[Bool.and_eq_true,Bool.and_eq_true,dJ,M.inR_iff];exact⟨λ⟨a,⟨b,c⟩,d⟩=>⟨a,b,c,d⟩,λ⟨a,b,c,d⟩=>⟨a,⟨b,c⟩,d⟩⟩
theorem bBs{gs:List DGuest}{g:Int}(h3:gs.length=3):qR gs g=some (M.inR 0 2 g&&(gs.getD g.toNat default).Live):=by unfold qR M.inR;by_cases h0:0<=g;{by_cases h1:g<3;{rw[decide_eq_true h0,decide_eq_true h1,decide_eq_true (p:=g<=2) (by omega),cond_true,cond_true,aD ⟨h0,by omega⟩];rfl};{rw[decide_eq_true h0,decide_eq_false h1,decide_eq_false (p:=g<=2) (by omega)];rfl}};{rw[decide_eq_false h0];rfl}
theorem aZd{h:DHost}{g:Int}(hs:SmallH h):oM h g=some (M.there h g):=by unfold oM M.there;rw[pU hs,Option.bind_some];(cases hh:M.hostOk h with|false=>rfl|true=>have hk:=dJ.1 hh;rw[cond_true,bBs hk.three];rfl)
end Go.Proofs.Ytkjabgefacfpfaa
namespace Go.Proofs.Ytkjabgefacfpfaa
set_option linter.all false
theorem aTo{T:Type}{xs ys:List T}(h:xs.length=ys.length):over xs 0 xs.length ys=ys:=by simp only[over,h,Nat.min_self,List.take_length,Nat.zero_add,List.take_zero,List.nil_append];rw[List.drop_eq_nil_of_le (by omega),List.append_nil]
theorem lD{xs:List Int}(h:xs.length<=1048576):dG xs=some xs:=by unfold dG;rw[aD ⟨by omega,by omega,by omega⟩,aTo (by simp)]
theorem bDw{c:DCore}(h:SmallC c):nO c=some c:=by have:=h.regs;unfold nO;rw[aD ⟨by simp;omega,by simp;omega⟩];rfl
end Go.Proofs.Ytkjabgefacfpfaa
namespace Go.Proofs.Ytkjabgefacfpfaa
set_option linter.all false
theorem bHp{xs ys:List Int}{o k a:Nat}(hk:ys.length=k)(ho:o+k<=xs.length):(over xs o k ys).getD a default=if a<o then xs.getD a default else if a<o+k then ys.getD (a-o) default else xs.getD a default:=by simp only[over,hk,Nat.min_self,List.getD_eq_getElem?_getD];rw[List.take_of_length_le (l:=ys) (i:=k) (by omega)];by_cases h1:a<o;{rw[if_pos h1,List.getElem?_append_left (by simp;omega),List.getElem?_take_of_lt h1]};{rw[if_neg h1,List.getElem?_append_right (by simp;omega)];have e:(xs.take o).length=o:=(by simp;omega);rw[e];by_cases h2:a<o+k;{rw[if_pos h2,List.getElem?_append_left (by omega)]};{rw[if_neg h2,List.getElem?_append_right (by omega),List.getElem?_drop];congr 2;omega}}
theorem aPt{xs ys:List Int}{o k:Nat}(ho:o+k<=xs.length):(over xs o k ys).length=xs.length:=aGe ho
theorem aDm{xs ys:List Int}{n:Nat}(h1:xs.length=n)(h2:ys.length=n)(h:∀a,a<n->xs.getD a default=ys.getD a default):xs=ys:=by apply List.ext_getElem (by omega);intro i q1 q2;have:=h i (by omega);rwa[bO q1,bO q2]at this
theorem rZ{xs:List Int}{o a:Nat}(ha:a<8):((xs.drop o).take 8).getD a default=xs.getD (o+a) default:=by simp only[List.getD_eq_getElem?_getD];rw[List.getElem?_take_of_lt ha,List.getElem?_drop]
theorem kJ{xs:List Int}{o:Nat}(h:o+8<=xs.length):((xs.drop o).take 8).length=8:=by simp;omega
namespace M
def word(ws:List Int)(ps:List DSlot)(a:Nat):Int:=if(ps.getD (a/8) default).Frame<0 then 0 else ws.getD ((ps.getD (a/8) default).Frame.toNat*8+a%8) default
def mem(ws:List Int)(ps:List DSlot):List Int:=(List.range 64).map (word ws ps)
def page(ws:List Int)(f:Nat):List Int:=(ws.drop (f*8)).take 8
noncomputable def hostView (h:DHost)(g:Int):DBare×Bool:=bif there h g then(⟨(h.Guests.getD g.toNat default).C,mem h.Words (h.Guests.getD g.toNat default).Pages,(h.Guests.getD g.toNat default).In,(h.Guests.getD g.toNat default).Out⟩,true)else(⟨noCore,[],[],[]⟩,false)
end M
theorem yB{ws:List Int}{ps:List DSlot}:(M.mem ws ps).length=64:=by simp[M.mem]
theorem aNx{ws:List Int}{ps:List DSlot}{a:Nat}(ha:a<64):(M.mem ws ps).getD a default=M.word ws ps a:=by rw[bO (by rw[yB];exact ha)];simp[M.mem]
theorem aDw{xs:List Int}{f:Int}(h0:0<=f)(h1:f*8+8<=xs.length)(h2:f<=1000000):gI xs f=some (M.page xs f.toNat):=by unfold gI M.page;rw[aC (z:=f*8) (by omega) (by omega),aC (z:=f+1) (by omega) (by omega),aC (z:=(f+1)*8) (by omega) (by omega),aD ⟨by omega,by omega,by omega⟩];rw[show Int.toNat ((f+1)*8)-Int.toNat (f*8)=8 by omega,show Int.toNat (f*8)=f.toNat*8 by omega]
theorem bFs{xs:List Int}{f:Int}(h0:0<=f)(h1:f*8+8<=xs.length)(h2:f<=1000000):lM xs f=some (xs,(f.toNat*8,8)):=by unfold lM;rw[aC (z:=f*8) (by omega) (by omega),aC (z:=f+1) (by omega) (by omega),aC (z:=(f+1)*8) (by omega) (by omega),aD ⟨by omega,by omega,by omega⟩];rw[show Int.toNat ((f+1)*8)-Int.toNat (f*8)=8 by omega,show Int.toNat (f*8)=f.toNat*8 by omega]
theorem bEp{ps:List DSlot}(hp:ps.all M.slotOk=true){i:Nat}(hi:i<ps.length):-1<=(ps.getD i default).Frame/\(ps.getD i default).Frame<20:=cD (List.all_eq_true.1 hp _ (dB hi))
theorem bDj{ws:List Int}{ps:List DSlot}(hw:ws.length=160)(hl:ps.length=8)(hp:ps.all M.slotOk=true):jX ws ps=some (M.mem ws ps):=by
 unfold jX
 obtain⟨key,k2⟩:=aEs (n:=8) (step:=jE ws ps) (λs j=>(s,j)) (λs i=>bif decide ((ps.getD i default).Frame=-1)then s else over s (i*8) 8 (M.page ws (ps.getD i default).Frame.toNat)) (λs=>JO.go s)
  (λk s=>s.length=64/\∀a,a<64->s.getD a default=if a<8*k then M.word ws ps a else 0) (λi s hi hs=>by
  have hr:=bEp hp (i:=i) (by omega);obtain⟨s1,s2⟩:=hs;simp only[jE,Int.toNat_natCast];rw[decide_eq_true (p:=(i:Int)<_) (by omega),cond_true,aD ⟨by omega,by omega⟩];by_cases e:(ps.getD i default).Frame=-1;{rw[decide_eq_true e];simp only[Bool.not_true,cond_true,cond_false,Option.bind_some,JO.run,iY];rw[aC (by omega) (by omega)];refine⟨rfl,s1,λa ha=>?_⟩;rw[s2 a ha];by_cases e1:a<8*i;{rw[if_pos e1,if_pos (by omega)]};{by_cases e2:a<8*(i+1);{rw[if_neg e1,if_pos e2];unfold M.word;rw[show a/8=i by omega,if_pos (by omega)]};{rw[if_neg e1,if_neg e2]}}}
  · rw[decide_eq_false e,Bool.not_false,cond_true,bFs (by omega) (by omega) (by omega),Option.bind_some,aD rfl,aD (by simp only[];omega),aDw (by omega) (by omega) (by omega)]
    simp only[Option.bind_some,JO.run,iY,cond_false,Int.toNat_natCast];rw[aC (by omega) (by omega)];have hpl:(M.page ws (ps.getD i default).Frame.toNat).length=8:=kJ (by omega);refine⟨rfl,by rw[aPt (by omega),s1],λa ha=>?_⟩;rw[bHp hpl (by omega),s2 a ha];by_cases e1:a<8*i;{rw[if_pos (by omega),if_pos e1,if_pos (by omega)]}
    · by_cases e2:a<8*(i+1)
      {rw[if_neg (by omega),if_pos (by omega),if_pos e2];unfold M.page M.word;rw[rZ (by omega),show a/8=i by omega,if_neg (by omega)];congr 1;omega}
      · rw[if_neg (by omega),if_neg (by omega),if_neg e1,if_neg e2]) (λs _=>by
  simp only[jE];rw[decide_eq_false (by omega),cond_false]) (List.replicate 64 0) ⟨by simp,λa ha=>by rw[if_neg (by omega),bO (by rw[List.length_replicate];omega),List.getElem_replicate]⟩
 rw[show Int.toNat (64:Int)=64 from rfl,key];simp only[Option.bind_some,LO.val,JO.run,mE];congr 1;refine aDm k2.1 yB λa ha=>?_;rw[k2.2 a ha,if_pos (by omega),aNx ha]
theorem aQi{b:DBare}(hs:SmallB b):mG b=some b:=by unfold mG;rw[lD hs.c.regs,lD hs.mem,lD hs.i,lD hs.o];rfl
structure Live (h : DHost) (g : Int) (x : DGuest) : Prop where
 small:SmallG x
 ok:HOk h
 lo:0<=g
 hi:g<=2
 at_:h.Guests.getD g.toNat default=x
 aLg:x.Live=true
 core:M.coreOk x.C=true
 pages:x.Pages.length=8
 slots:x.Pages.all M.slotOk=true
 inn:M.rowOk x.In=true
 out:M.rowOk x.Out=true
theorem aDj{h:DHost}{g:Int}(hs:SmallH h)(ht:M.there h g=true):Live h g (h.Guests.getD g.toNat default):=by obtain⟨hk,h0,h1,h2⟩:=bCm.1 ht;have:=hk.three;have hm:=dB (xs:=h.Guests) (k:=g.toNat) (by omega);have ho:=List.all_eq_true.1 hk.all _ hm;unfold M.guestOk at ho;rw[h2,cond_true]at ho;simp only[Bool.and_eq_true,decide_eq_true_eq]at ho;exact⟨hs.all _ hm,hk,h0,h1,rfl,h2,ho.1.1.1,ho.1.1.2.1,ho.1.1.2.2,ho.1.2,ho.2⟩
theorem bHj{h:DHost}{g:Int}{x:DGuest}(l:Live h g x):rR h g=some ⟨x.C,M.mem h.Words x.Pages,x.In,x.Out⟩:=by have:=l.ok.three;have:=l.lo;have:=l.hi;unfold rR;rw[aD ⟨l.lo,by omega⟩,l.at_,bDj l.ok.len l.pages l.slots];rfl
theorem aNi{h:DHost}{g:Int}(hs:SmallH h):lU h g=some (M.hostView h g):=by unfold lU M.hostView;rw[aZd hs,Option.bind_some];(cases ht:M.there h g with|false=>rfl|true=>have l:=aDj hs ht;rw[Bool.not_true,cond_false,bHj l,Option.bind_some,aQi ⟨l.small.c,by simp[yB],l.small.i,l.small.o⟩];rfl)
theorem bAp{h:DHost}{g:Int}(hs:SmallH h):SmallB (M.hostView h g).1:=by unfold M.hostView;(cases ht:M.there h g with|false=>exact⟨⟨by simp[M.noCore]⟩,by simp,by simp,by simp⟩|true=>have l:=aDj hs ht;exact⟨l.small.c,by simp[yB],l.small.i,l.small.o⟩)
end Go.Proofs.Ytkjabgefacfpfaa
namespace Go.Proofs.Ytkjabgefacfpfaa
set_option linter.all false
namespace M
def freeStep(ss:List DSlot)(s:List Int)(i:Nat):List Int:=bif decide (many ss (i:Int)=0)then s++[(i:Int)]else s
def free(ss:List DSlot):List Int:=(List.range 20).foldl (freeStep ss) []
noncomputable def hostFree (h:DHost):List Int:=bif hostOk h then free (slots h.Guests)else[]
end M
theorem uM{ss:List DSlot}:M.free ss=((List.range 20).filter λ(i:Nat)=>decide (M.many ss (i:Int)=0)).map λ(i:Nat)=>(i:Int):=by
 have e:∀(xs:List Nat) (s:List Int),xs.foldl (M.freeStep ss) s=s++(xs.filter λ(i:Nat)=>decide (M.many ss (i:Int)=0)).map λ(i:Nat)=>(i:Int):=by
  intro xs;induction xs with
  |nil=>intro s;simp
  |cons x xs ih=>intro s;rw[List.foldl_cons,ih,List.filter_cons];unfold M.freeStep;cases decide (M.many ss (x:Int)=0)<;>simp
 unfold M.free;rw[e];simp
theorem aGt{ss:List DSlot}{s:List Int}{i n:Nat}(h:s.length<=n):(M.freeStep ss s i).length<=n+1:=by unfold M.freeStep;cases decide (M.many ss (i:Int)=0)<;>simp<;>omega
theorem aUh{ss:List DSlot}:(M.free ss).length<=20:=by rw[uM,List.length_map];have:=List.length_filter_le (λ(i:Nat)=>decide (M.many ss (i:Int)=0)) (List.range 20);simpa using this
theorem aWs{h:DHost}(h3:h.Guests.length=3)(hall:h.Guests.all M.guestOk=true):gF h=some (M.takers (M.slots h.Guests)):=by
 have hin:∀(k:Nat) (g:DGuest) (xs:List Int) (h1:(k:Int)<(h.Guests.length:Int)) (h2:g∈h.Guests) (h3:h.Guests.getD k default=g) (h4:Tl (8*k) xs),
  iter (kE h (xs,(k:Int))) (xs,0)=some (.ret (.go (g.Pages.foldl M.bump xs)))/\Tl (8*k+g.Pages.length) (g.Pages.foldl M.bump xs):=by
  intro k g xs h1 h2 h3 h4;obtain⟨g1,g2⟩:=dC (List.all_eq_true.1 hall g h2)
  exact tH (xs:=g.Pages) (step:=kE h (xs,(k:Int))) (λs j=>(s,j)) M.bump (λs=> .go s) (λj s=>Tl (8*k+j) s) (λj x s a1 a2 a3 a4=>by
   have hx:=List.all_eq_true.1 g1 x a2;have hr:=cD hx;have hl:=a4.len;refine⟨?_,a4.bump hx⟩;simp only[kE,Int.toNat_natCast,h3,decide_eq_true a1,cond_true];rw[aD ⟨by omega,h1⟩,aD ⟨by omega,h1⟩,aD ⟨by omega,a1⟩,a3];unfold M.bump;by_cases e:x.Frame=-1;{rw[decide_eq_false (p:=(0:Int)<=x.Frame) (by omega),decide_eq_true e];simp only[cond_true,cond_false,Option.bind_some,JO.run,sG];rw[aC (by omega) (by omega)]}
   · have q1:=a4.low x.Frame.toNat (by omega);have q2:=a4.top x.Frame.toNat (by omega);rw[decide_eq_true (p:=(0:Int)<=x.Frame) (by omega),decide_eq_false e,cond_true,aD ⟨by omega,by omega⟩,aD ⟨by omega,by omega⟩,aC (by omega) (by omega)];simp only[cond_true,cond_false,Option.bind_some,JO.run,sG];rw[aC (by omega) (by omega)]) (λs _=>by
   simp only[kE,Int.toNat_natCast,h3];rw[aD ⟨by omega,h1⟩,decide_eq_false (by omega),cond_false]) xs h4
 have key:=(tH (xs:=h.Guests) (step:=nH h) (λs j=>(s,j)) (λs g=>g.Pages.foldl M.bump s) (λs=> .go s) (λk s=>Tl (8*k) s) (λk g s a1 a2 a3 a4=>by
  obtain⟨b1,b2⟩:=hin k g s a1 a2 a3 a4;refine⟨?_,b2.mono (by have:=(dC (List.all_eq_true.1 hall g a2)).2;omega)⟩;simp only[nH,decide_eq_true a1,cond_true];rw[b1];simp only[Option.bind_some,LO.val,JO.run,zM];rw[aC (by omega) (by omega)]) (λs _=>by
  simp only[nH];rw[decide_eq_false (by omega),cond_false]) (List.replicate 20 0) (Tl.zero.mono (by omega))).1
 unfold gF;rw[show Int.toNat (20:Int)=20 from rfl,key];simp only[Option.bind_some,LO.val,JO.run,zA];rw[qK];rfl
theorem bEa{h:DHost}(hs:SmallH h)(hk:HOk h):gF h=some (M.takers (M.slots h.Guests)):=aWs hk.three hk.all
theorem aPq{ss:List DSlot}(hss:ss.all M.slotOk=true){i:Nat}(hi:i<20){s:List Int}(hl:s.length<=i){Y:Type}:
 (grd ((0:Int)<=(i:Int)/\(i:Int)<((List.length (M.takers ss):Nat):Int)) (cond (decide ((List.getD (M.takers ss) i default)=(0:Int))) (grd ((List.length s+List.length ([(i:Int)]:List Int))*8<=2^47/\List.length s+List.length ([(i:Int)]:List Int)<=2^47) (some (JO.go (s++([(i:Int)]:List Int))))) (some (JO.go s))):Option (JO (List Int) Y))=some (.go (M.freeStep ss s i)):=by
 have hl2:=lH hss;have e0:decide ((M.takers ss).getD i default=0)=decide (M.many ss (i:Int)=0):=(by rw[decide_eq_decide,jG hss hi];omega);rw[aD ⟨by omega,by omega⟩,e0];unfold M.freeStep;(cases decide (M.many ss (i:Int)=0)with|true=>rw[cond_true,cond_true,aD ⟨by simp;omega,by simp;omega⟩]|false=>rfl)
theorem aTi{gs:List DGuest}(hl:gs.length<=1048576)(h:gs.all M.guestOk=true):mA gs=some (M.free (M.slots gs)):=by
 have hss:=dA h;have hl2:=lH hss;unfold mA;rw[aEd hl h,Option.bind_some]
 have key:=(aEs (n:=20) (step:=jI (M.takers (M.slots gs))) (λs j=>(s,j)) (M.freeStep (M.slots gs)) (λs=>JO.go s) (λi s=>s.length<=i) (λi s hi hs=>by
  refine⟨?_,aGt hs⟩;simp only[jI,Int.toNat_natCast];rw[decide_eq_true (p:=(i:Int)<_) (by omega),cond_true,aPq hss hi hs,Option.bind_some];simp only[JO.run,uA];rw[aC (by omega) (by omega)]) (λs _=>by
  simp only[jI];rw[decide_eq_false (by omega),cond_false]) [] (by simp)).1
 rw[key];rfl
theorem xP{h:DHost}(hs:SmallH h):fT h=some (M.hostFree h):=by unfold fT M.hostFree;rw[pU hs,Option.bind_some];(cases hh:M.hostOk h with|false=>rfl|true=>rw[Bool.not_true,cond_false,aTi hs.guests (dJ.1 hh).all];rfl)
theorem aMv{h:DHost}(hs:SmallH h):lK h=some (M.hostFree h):=by
 unfold lK M.hostFree;rw[zK hs,Option.bind_some];cases hh:M.hostOk h with
 |false=>rfl
 |true=>
  have hk:=dJ.1 hh;have hss:=dA hk.all;rw[Bool.not_true,cond_false,bEa hs hk,Option.bind_some]
  have key:=(aEs (n:=20) (step:=lT (M.takers (M.slots h.Guests))) (λs j=>(s,j)) (M.freeStep (M.slots h.Guests)) (λs=>JO.go s) (λi s=>s.length<=i) (λi s hi hs=>by
   refine⟨?_,aGt hs⟩;simp only[lT,Int.toNat_natCast];rw[decide_eq_true (p:=(i:Int)<20) (by omega),cond_true,aPq hss hi hs,Option.bind_some];simp only[JO.run,wM];rw[aC (by omega) (by omega)]) (λs _=>by
   simp only[lT];rfl) [] (by simp)).1
  rw[key];rfl
theorem aVc{h:DHost}:(M.hostFree h).length<=20:=by unfold M.hostFree;cases M.hostOk h;{simp};{exact aUh}
end Go.Proofs.Ytkjabgefacfpfaa
namespace Go.Proofs.Ytkjabgefacfpfaa
set_option linter.all false
section
variable {T : Type} [Inhabited T] {f : T → T} {k : Nat} {xs : List T}
def up{T:Type}(f:T->T)(k:Nat)(xs:List T):List T:=xs.mapIdx λi x=>if i<k then f x else x
theorem aCw{i:Nat}:(up f k xs)[i]? =(xs[i]?).map λx=>if i<k then f x else x:=by simp[up]
theorem aBy:(up f k xs).length=xs.length:=by simp[up]
theorem aXm:up f 0 xs=xs:=by apply List.ext_getElem?;intro i;rw[aCw];cases xs[i]? <;>simp
theorem bEu(h:xs.length<=k):up f k xs=xs.map f:=by apply List.ext_getElem?;intro i;rw[aCw,List.getElem?_map];by_cases e:i<xs.length;{rw[List.getElem?_eq_getElem e];simp only[Option.map_some,if_pos (show i<k by omega)]};{rw[List.getElem?_eq_none (by omega)];rfl}
theorem aTp(h:k<xs.length):(up f k xs).set k (f (xs.getD k default))=up f (k+1) xs:=by apply List.ext_getElem?;intro i;rw[List.getElem?_set,aCw,aCw];by_cases e:k=i;{subst e;rw[if_pos rfl,if_pos (by rw[aBy];exact h),List.getElem?_eq_getElem h,bO h];simp};{rw[if_neg e];(cases xs[i]? with|none=>rfl|some x=>simp only[Option.map_some];by_cases q:i<k;{rw[if_pos q,if_pos (by omega)]};{rw[if_neg q,if_neg (by omega)]})}
theorem bJy{i:Nat}(h:i<xs.length):(up f k xs).getD i default=if i<k then f (xs.getD i default)else xs.getD i default:=by rw[List.getD_eq_getElem?_getD,aCw,List.getElem?_eq_getElem h,bO h];rfl
theorem bNk(h:k<xs.length):(up f k xs).getD k default=xs.getD k default:=by rw[bJy h,if_neg (by omega)]
theorem bJi(h:k<xs.length)(he:f (xs.getD k default)=xs.getD k default):up f k xs=up f (k+1) xs:=by rw[<-aTp h,he];apply List.ext_getElem?;intro i;rw[List.getElem?_set];by_cases e:k=i;{subst e;rw[if_pos rfl,if_pos (by rw[aBy];exact h),aCw,List.getElem?_eq_getElem h,bO h];simp};{rw[if_neg e]}
end
namespace M
def mapG(f:DSlot->DSlot)(g:DGuest):DGuest:=⟨g.Live,g.C,g.Pages.map f,g.In,g.Out⟩
def upG(f:DSlot->DSlot)(j:Nat)(g:DGuest):DGuest:=⟨g.Live,g.C,up f j g.Pages,g.In,g.Out⟩
def upGs(f:DSlot->DSlot)(k j:Nat)(gs:List DGuest):List DGuest:=(up (mapG f) k gs).set k (upG f j (gs.getD k default))
end M
section
variable {f : DSlot → DSlot} {k j : Nat} {gs : List DGuest}
theorem bHe{g:DGuest}:M.upG f 0 g=g:=by unfold M.upG;rw[aXm]
theorem bIt{g:DGuest}(h:g.Pages.length<=j):M.upG f j g=M.mapG f g:=by unfold M.upG M.mapG;rw[bEu h]
theorem sE:(M.upGs f k j gs).length=gs.length:=by unfold M.upGs;rw[List.length_set,aBy]
theorem bBx(h:k<gs.length):M.upGs f k 0 gs=up (M.mapG f) k gs:=by unfold M.upGs;rw[bHe];apply List.ext_getElem?;intro i;rw[List.getElem?_set];by_cases e:k=i;{subst e;rw[if_pos rfl,if_pos (by rw[aBy];exact h),aCw,List.getElem?_eq_getElem h,bO h];simp};{rw[if_neg e]}
theorem uY(h:k<gs.length)(hj:(gs.getD k default).Pages.length<=j):M.upGs f k j gs=up (M.mapG f) (k+1) gs:=by unfold M.upGs;rw[bIt hj,aTp h]
theorem aOw(h:k<gs.length):(M.upGs f k j gs).getD k default=M.upG f j (gs.getD k default):=by unfold M.upGs;rw[bO (by rw[List.length_set,aBy];exact h),List.getElem_set_self]
theorem bGb(h:k<gs.length){y:DGuest}:(M.upGs f k j gs).set k y=(up (M.mapG f) k gs).set k y:=by unfold M.upGs;rw[List.set_set]
theorem uT(h:k<gs.length)(hj:j<(gs.getD k default).Pages.length){s:DSlot}(hs:s=f ((gs.getD k default).Pages.getD j default)):
 (M.upGs f k j gs).set k ⟨((M.upGs f k j gs).getD k default).Live,((M.upGs f k j gs).getD k default).C,((M.upGs f k j gs).getD k default).Pages.set j s,((M.upGs f k j gs).getD k default).In,((M.upGs f k j gs).getD k default).Out⟩=M.upGs f k (j+1) gs:=by
 rw[aOw h,bGb h];unfold M.upGs;congr 1;unfold M.upG;simp only;rw[hs,aTp hj]
theorem mW(h:k<gs.length)(hj:j<(gs.getD k default).Pages.length)(hs:f ((gs.getD k default).Pages.getD j default)=(gs.getD k default).Pages.getD j default):M.upGs f k j gs=M.upGs f k (j+1) gs:=by unfold M.upGs M.upG;rw[bJi hj hs]
theorem aHc(h:k<gs.length)(hj:j<(gs.getD k default).Pages.length):((M.upGs f k j gs).getD k default).Pages.getD j default=(gs.getD k default).Pages.getD j default:=by rw[aOw h];unfold M.upG;exact bNk hj
theorem oY(h:k<gs.length):((M.upGs f k j gs).getD k default).Pages.length=(gs.getD k default).Pages.length:=by rw[aOw h];unfold M.upG;exact aBy
end
theorem wO{f:DSlot->DSlot}:∀{gs:List DGuest},M.slots (gs.map (M.mapG f))=(M.slots gs).map f
 |[]=>rfl
 |g::gs=>by have ih:=wO (f:=f) (gs:=gs);simp only[M.slots,List.map_cons,List.flatMap_cons,List.map_append]at ih ⊢;rw[ih];rfl
theorem bFy{f:DSlot->DSlot}{ss:List DSlot}{q:Int}:M.many (ss.map f) q=ss.countP λs=>decide ((f s).Frame=q):=by unfold M.many;rw[List.countP_map];rfl
theorem aUu{ss:List DSlot}{q:Int}:0<M.many ss q↔∃s∈ss,s.Frame=q:=by unfold M.many;rw[List.countP_pos_iff];simp
theorem sN{gs:List DGuest}{k j:Nat}(h:k<gs.length)(hj:j<(gs.getD k default).Pages.length):(gs.getD k default).Pages.getD j default∈M.slots gs:=by simp only[M.slots,List.mem_flatMap];exact⟨_,dB h,dB hj⟩
theorem aGk{f:DSlot->DSlot}{ws:List Int}{gs:List DGuest}(hs:SmallH ⟨ws,gs⟩):SmallH ⟨ws,gs.map (M.mapG f)⟩:=by refine⟨hs.words,by simpa using hs.guests,λg hg=>?_⟩;obtain⟨x,hx,rfl⟩:=List.mem_map.1 hg;have a:=hs.all x hx;exact⟨a.c,by simpa[M.mapG]using a.pages,a.i,a.o⟩
theorem aUp{f:DSlot->DSlot}{gs:List DGuest}{k:Nat}(h:k<gs.length):(gs.map (M.mapG f)).getD k default=M.mapG f (gs.getD k default):=by rw[bO (by simpa using h),bO h,List.getElem_map]
theorem aVp{T U:Type}[Inhabited T][Inhabited U]{f:T->U}{xs:List T}{j:Nat}(h:j<xs.length):(xs.map f).getD j default=f (xs.getD j default):=by rw[bO (by rw[List.length_map];exact h),bO h,List.getElem_map]
theorem aDa{f:DSlot->DSlot}{gs:List DGuest}(h:gs.all M.guestOk=true)(hf:∀s∈M.slots gs,M.slotOk (f s)=true):(gs.map (M.mapG f)).all M.guestOk=true:=by rw[List.all_eq_true];intro y hy;obtain⟨x,hx,rfl⟩:=List.mem_map.1 hy;have ho:=List.all_eq_true.1 h x hx;unfold M.guestOk at ho ⊢;(cases hl:x.Live with|true=>rw[hl,cond_true]at ho;simp only[Bool.and_eq_true,decide_eq_true_eq]at ho;simp only[M.mapG,hl,cond_true,Bool.and_eq_true,decide_eq_true_eq,List.length_map];refine⟨⟨⟨ho.1.1.1,ho.1.1.2.1,?_⟩,ho.1.2⟩,ho.2⟩;rw[List.all_eq_true];intro s hs;obtain⟨t,ht,rfl⟩:=List.mem_map.1 hs;exact hf t (List.mem_flatMap.2 ⟨x,hx,ht⟩)|false=>rw[hl,cond_false,decide_eq_true_eq]at ho;rw[ho];simp only[M.mapG,M.noGuest,cond_false,decide_eq_true_eq,List.map_nil])
theorem aRi {f:DSlot->DSlot} {h:DHost} (hs:SmallH h) (hk:M.hostOk h=true) (hk2:M.hostOk ⟨h.Words,h.Guests.map (M.mapG f)⟩=true)
 (hf:∀s∈M.slots h.Guests,∀a,a<8->(if(f s).Frame<0 then 0 else h.Words.getD ((f s).Frame.toNat*8+a) default)=(if s.Frame<0 then 0 else h.Words.getD (s.Frame.toNat*8+a) default)) {k:Nat} (h3:k<3):
 M.hostView ⟨h.Words,h.Guests.map (M.mapG f)⟩ (k:Int)=M.hostView h (k:Int):=by
 have hlen:=(dJ.1 hk).three;have e1:M.there ⟨h.Words,h.Guests.map (M.mapG f)⟩ (k:Int)=M.there h (k:Int):=(by unfold M.there;rw[hk,hk2,Int.toNat_natCast,aUp (by omega)];rfl);unfold M.hostView;rw[e1];(cases ht:M.there h (k:Int)with|false=>rfl|true=>have l:=aDj hs ht;rw[Int.toNat_natCast]at l ⊢;rw[aUp (by omega)];have hp:=l.pages;have:M.mem h.Words (M.mapG f (h.Guests.getD k default)).Pages=M.mem h.Words (h.Guests.getD k default).Pages:=(by refine aDm yB yB λa ha=>?_;rw[aNx ha,aNx ha];unfold M.word;have e:(M.mapG f (h.Guests.getD k default)).Pages.getD (a/8) default=f ((h.Guests.getD k default).Pages.getD (a/8) default):=(by exact aVp (by omega));rw[e];exact hf _ (sN (by omega) (by omega)) (a%8) (by omega));rw[cond_true,cond_true,this];rfl)
theorem aRo{ss tt:List DSlot}(h:∀f:Nat,f<20->M.many ss (f:Int)=0->M.many tt (f:Int)=0):(M.free ss).length<=(M.free tt).length:=by rw[uM,uM,List.length_map,List.length_map,<-List.countP_eq_length_filter,<-List.countP_eq_length_filter];refine List.countP_mono_left λf hf hm=>?_;rw[decide_eq_true_eq]at hm ⊢;exact h f (List.mem_range.1 hf) hm
end Go.Proofs.Ytkjabgefacfpfaa
namespace Go.Proofs.Ytkjabgefacfpfaa
set_option linter.all false
namespace M
def alike(ws:List Int)(ss:List DSlot)(f:Int)(o:Nat):Bool:=decide (0<many ss (o:Int))&&decide (page ws o=page ws f.toNat)
def firstIn(ws:List Int)(ss:List DSlot)(f:Int):Int:=match (List.range 20).find? (alike ws ss f)with
 |some o=>(o:Int)
 |none=>f
def shareS(ws:List Int)(ss:List DSlot)(s:DSlot):DSlot:=bif decide (s.Frame=-1)then s else⟨firstIn ws ss s.Frame,s.Write,s.Dirty⟩
def aloneS(ss:List DSlot)(s:DSlot):DSlot:=bif s.Write&&decide (1<many ss s.Frame)then⟨s.Frame,false,s.Dirty⟩else s
def sharedG(h:DHost):List DGuest:=h.Guests.map (mapG (shareS h.Words (slots h.Guests)))
noncomputable def hostShare (h:DHost):DHost:=bif hostOk h then⟨h.Words,(sharedG h).map (mapG (aloneS (slots (sharedG h))))⟩else⟨[],[]⟩
def zeroS(ws:List Int)(s:DSlot):DSlot:=bif !s.Dirty&&(decide (s.Frame=-1)||(page ws s.Frame.toNat).all (λw=>decide (w=0)))then⟨-1,false,false⟩else s
noncomputable def hostZero (h:DHost):DHost:=bif hostOk h then⟨h.Words,h.Guests.map (mapG (zeroS h.Words))⟩else⟨[],[]⟩
end M
theorem tV{p:Nat->Bool}:∀{n i:Nat},(List.range n).find? p=some i↔(i<n/\p i=true/\∀j,j<i->p j=false)
 |0,i=>by simp
 |n+1,i=>by
  rw[List.range_succ,List.find?_append];cases e:(List.range n).find? p with
  |some o=>
   have h:=(tV (n:=n) (i:=o)).1 e;simp only[Option.some_or,Option.some.injEq];constructor
   · rintro rfl;exact⟨by omega,h.2⟩
   · rintro⟨a,b,c⟩
     rcases Nat.lt_trichotomy o i with q|q|q;{have:=c o q;rw[h.2.1]at this;cases this};{exact q};{have:=h.2.2 i q;rw[b]at this;cases this}
  |none=>
   have hn:∀j,j<n->p j=false:=λj hj=>by have:=List.find?_eq_none.1 e j (List.mem_range.2 hj);simpa using this
   simp only[Option.none_or,List.find?_cons,List.find?_nil];cases hp:p n with
   |true=>
    simp only[Option.some.injEq];constructor
    · rintro rfl;exact⟨by omega,hp,hn⟩
    · rintro⟨a,b,c⟩
      by_cases q:i<n;{have:=hn i q;rw[b]at this;cases this};{omega}
   |false=>
    simp only[reduceCtorEq,false_iff]
    rintro⟨a,b,c⟩
    by_cases q:i<n;{have:=hn i q;rw[b]at this;cases this};{have:i=n:=(by omega);subst this;rw[hp]at b;cases b}
theorem bEf{p:Nat->Bool}{n i:Nat}(hi:i<n)(hp:p i=true):∃o,(List.range n).find? p=some o:=by
 (cases e:(List.range n).find? p with|some o=>exact⟨o,rfl⟩|none=>have:=List.find?_eq_none.1 e i (List.mem_range.2 hi);rw[hp]at this;exact absurd rfl this)
section
variable {ws : List Int} {ss : List DSlot}
theorem qJ{f:Int}(h0:0<=f)(h1:f<20)(hm:0<M.many ss f):∃o:Nat,o<20/\(o:Int)<=f/\M.firstIn ws ss f=(o:Int)/\0<M.many ss (o:Int)/\M.page ws o=M.page ws f.toNat/\∀j,j<o->M.alike ws ss f j=false:=by have ef:((f.toNat:Nat):Int)=f:=(by omega);have ha:M.alike ws ss f f.toNat=true:=(by unfold M.alike;rw[ef,decide_eq_true hm,decide_eq_true rfl];rfl);obtain⟨o,ho⟩:=bEf (n:=20) (by omega) ha;obtain⟨a,b,c⟩:=tV.1 ho;have hb:=b;unfold M.alike at hb;rw[Bool.and_eq_true,decide_eq_true_eq,decide_eq_true_eq]at hb;refine⟨o,a,?_,by unfold M.firstIn;rw[ho],hb.1,hb.2,c⟩;by_cases q:f.toNat<o;{have:=c _ q;rw[ha]at this;cases this};{omega}
theorem aVv{f:Int}(h0:0<=f)(h1:f<20):0<=M.firstIn ws ss f/\M.firstIn ws ss f<20:=by unfold M.firstIn;(cases e:(List.range 20).find? (M.alike ws ss f)with|some o=>obtain⟨a,_⟩:=tV.1 e;exact⟨by simp,by simp;omega⟩|none=>exact⟨h0,h1⟩)
theorem bBa{f q:Int}(h:M.page ws f.toNat=M.page ws q.toNat):M.alike ws ss f=M.alike ws ss q:=by funext o;unfold M.alike;rw[h]
theorem aLt{f q:Int}(h:M.page ws f.toNat=M.page ws q.toNat)(hf:0<=f/\f<20/\0<M.many ss f)(hq:0<=q/\q<20/\0<M.many ss q):M.firstIn ws ss f=M.firstIn ws ss q:=by obtain⟨o,o1,o2,o3,o4,o5,o6⟩:=qJ (ws:=ws) hf.1 hf.2.1 hf.2.2;obtain⟨p,p1,p2,p3,p4,p5,p6⟩:=qJ (ws:=ws) hq.1 hq.2.1 hq.2.2;rw[o3,p3];have ao:M.alike ws ss f o=true:=(by unfold M.alike;rw[decide_eq_true o4,decide_eq_true o5];rfl);have ap:M.alike ws ss q p=true:=(by unfold M.alike;rw[decide_eq_true p4,decide_eq_true p5];rfl);rw[bBa h]at ao o6;rcases Nat.lt_trichotomy o p with e|e|e;{have:=p6 o e;rw[ao]at this;cases this};{rw[e]};{have:=o6 p e;rw[ap]at this;cases this}
end
theorem aAy{ss:List DSlot}{s:DSlot}:(M.aloneS ss s).Frame=s.Frame:=by unfold M.aloneS;cases s.Write&&decide (1<M.many ss s.Frame)<;>rfl
theorem uK{ws:List Int}{ss:List DSlot}{s:DSlot}(h:s.Frame=-1):M.shareS ws ss s=s:=by unfold M.shareS;rw[decide_eq_true h];rfl
theorem sR{ws:List Int}{ss:List DSlot}{s:DSlot}(h:s.Frame≠-1):M.shareS ws ss s=⟨M.firstIn ws ss s.Frame,s.Write,s.Dirty⟩:=by unfold M.shareS;rw[decide_eq_false h];rfl
theorem aCr{s:DSlot}(h:M.slotOk s=true)(hf:s.Frame=-1):s.Write=false/\s.Dirty=false:=by unfold M.slotOk at h;rw[decide_eq_true hf,cond_true,Bool.and_eq_true,Bool.not_eq_true',Bool.not_eq_true']at h;exact h
theorem aXp{f:Int}{w d:Bool}(h0:0<=f)(h1:f<20):M.slotOk ⟨f,w,d⟩=true:=by unfold M.slotOk;simp only;rw[decide_eq_false (by omega),cond_false,decide_eq_true h0,decide_eq_true h1];rfl
section
variable {h : DHost}
theorem aVb:M.slots (M.sharedG h)=(M.slots h.Guests).map (M.shareS h.Words (M.slots h.Guests)):=by unfold M.sharedG;rw[wO]
theorem aIz:M.slots ((M.sharedG h).map (M.mapG (M.aloneS (M.slots (M.sharedG h)))))=(M.slots (M.sharedG h)).map (M.aloneS (M.slots (M.sharedG h))):=wO
theorem aLp{ss tt:List DSlot}{q:Int}:M.many (ss.map (M.aloneS tt)) q=M.many ss q:=by rw[bFy];simp only[aAy];rfl
theorem aGa(hk:HOk h):(M.sharedG h).all M.guestOk=true:=by unfold M.sharedG;refine aDa hk.all λs hs=>?_;have hx:=List.all_eq_true.1 (dA hk.all) s hs;have hr:=cD hx;by_cases e:s.Frame=-1;{rw[uK e];exact hx};{rw[sR e];have:=aVv (ws:=h.Words) (ss:=M.slots h.Guests) (f:=s.Frame) (by omega) hr.2;exact aXp this.1 this.2}
theorem pH(hk:M.hostOk h=true):M.hostShare h=⟨h.Words,(M.sharedG h).map (M.mapG (M.aloneS (M.slots (M.sharedG h))))⟩:=by unfold M.hostShare;rw[hk];rfl
theorem aPy(hk:M.hostOk h=true):M.hostShare h=⟨h.Words,h.Guests.map (M.mapG λs=>M.aloneS (M.slots (M.sharedG h)) (M.shareS h.Words (M.slots h.Guests) s))⟩:=by
 rw[pH hk];congr 1
 conv=>lhs;arg 2;unfold M.sharedG
 rw[List.map_map];congr 1;funext g;simp only[Function.comp,M.mapG,List.map_map];rfl
theorem tM(hk:M.hostOk h=true):M.hostOk (M.hostShare h)=true:=by
 have k:=dJ.1 hk;rw[pH hk,dJ];have hs:=aGa k;refine⟨k.len,k.words,by simp[M.sharedG,k.three],aDa hs λs hs'=>?_,?_⟩
 · have hx:=List.all_eq_true.1 (dA hs) s hs'
   have hr:=cD hx;unfold M.aloneS;cases e:s.Write&&decide (1<M.many (M.slots (M.sharedG h)) s.Frame)with
   |false=>exact hx
   |true=>
    rw[cond_true];have:s.Frame≠-1:=λq=>by rw[(aCr hx q).1]at e;cases e
    exact aXp (by omega) hr.2
 {simp only[aIz];unfold M.alone;rw[List.all_eq_true];intro t ht;obtain⟨s,hs',rfl⟩:=List.mem_map.1 ht;rw[aLp,aAy];unfold M.aloneS;by_cases q:M.many (M.slots (M.sharedG h)) s.Frame<=1;{rw[decide_eq_true q,Bool.or_true]};{rw[decide_eq_false q,decide_eq_true (p:=1<M.many (M.slots (M.sharedG h)) s.Frame) (by omega),Bool.and_true];(cases hw:s.Write with|false=>rw[cond_false,hw];rfl|true=>rfl)}}
theorem aQg{ws:List Int}{f q a:Nat}(h:M.page ws f=M.page ws q)(ha:a<8):ws.getD (f*8+a) default=ws.getD (q*8+a) default:=by have:=congrArg (λl=>l.getD a default) h;simp only[M.page]at this;rwa[rZ ha,rZ ha]at this
theorem tE{s:DSlot}(hs:s∈M.slots h.Guests):0<M.many (M.slots h.Guests) s.Frame:=aUu.2 ⟨s,hs,rfl⟩
theorem aZs(hs:SmallH h)(hk:M.hostOk h=true){k:Nat}(h3:k<3):M.hostView (M.hostShare h) (k:Int)=M.hostView h (k:Int):=by have kk:=dJ.1 hk;have ok:=tM hk;rw[aPy hk]at ok ⊢;refine aRi hs hk ok (λs hss a ha=>?_) h3;have hx:=List.all_eq_true.1 (dA kk.all) s hss;have hr:=cD hx;rw[aAy];by_cases e:s.Frame=-1;{rw[uK e]};{rw[sR e];obtain⟨o,o1,o2,o3,o4,o5,-⟩:=qJ (ws:=h.Words) (ss:=M.slots h.Guests) (f:=s.Frame) (by omega) hr.2 (tE hss);simp only[o3];rw[if_neg (by omega),if_neg (by omega),Int.toNat_natCast];exact aQg o5 ha}
theorem aBf(hk:M.hostOk h=true){q:Int}(hq:q≠-1)(hm:0<M.many (M.slots (M.hostShare h).Guests) q):0<=q/\q<20/\0<M.many (M.slots h.Guests) q/\M.firstIn h.Words (M.slots h.Guests) q=q:=by have kk:=dJ.1 hk;rw[pH hk]at hm;simp only[aIz]at hm;rw[aLp,aVb]at hm;obtain⟨t,ht,e⟩:=aUu.1 hm;obtain⟨s,hs,rfl⟩:=List.mem_map.1 ht;have hx:=List.all_eq_true.1 (dA kk.all) s hs;have hr:=cD hx;by_cases e1:s.Frame=-1;{rw[uK e1]at e;omega};{rw[sR e1]at e;simp only at e;obtain⟨o,o1,o2,o3,o4,o5,-⟩:=qJ (ws:=h.Words) (ss:=M.slots h.Guests) (f:=s.Frame) (by omega) hr.2 (tE hs);rw[o3]at e;subst e;refine⟨by omega,by omega,o4,?_⟩;rw[<-o3];have:M.page h.Words (M.firstIn h.Words (M.slots h.Guests) s.Frame).toNat=M.page h.Words s.Frame.toNat:=(by rw[o3,Int.toNat_natCast,o5]);exact aLt this ⟨by omega,by omega,by rw[o3];exact o4⟩ ⟨by omega,hr.2,tE hs⟩}
theorem bAg(hk:M.hostOk h=true):(M.hostFree h).length<=(M.hostFree (M.hostShare h)).length:=by have e1:M.hostFree h=M.free (M.slots h.Guests):=(by unfold M.hostFree;rw[hk];rfl);have e2:M.hostFree (M.hostShare h)=M.free (M.slots (M.hostShare h).Guests):=(by unfold M.hostFree;rw[tM hk];rfl);rw[e1,e2];refine aRo λf hf hm=>?_;rcases Nat.eq_zero_or_pos (M.many (M.slots (M.hostShare h).Guests) (f:Int))with e|e;{exact e};{have:=(aBf hk (by omega) e).2.2.1;omega}
theorem aIv(hk:M.hostOk h=true){a b:Nat}(ha:0<M.many (M.slots (M.hostShare h).Guests) (a:Int))(hb:0<M.many (M.slots (M.hostShare h).Guests) (b:Int))(he:M.page h.Words a=M.page h.Words b):a=b:=by obtain⟨a0,a1,a2,a3⟩:=aBf hk (by omega) ha;obtain⟨b0,b1,b2,b3⟩:=aBf hk (by omega) hb;have:=aLt (ws:=h.Words) (ss:=M.slots h.Guests) (f:=(a:Int)) (q:=(b:Int)) (by rw[Int.toNat_natCast,Int.toNat_natCast];exact he) ⟨a0,a1,a2⟩ ⟨b0,b1,b2⟩;omega
theorem aJe(hs:SmallH h):SmallH (M.hostShare h):=by
 (cases hk:M.hostOk h with|false=>unfold M.hostShare;rw[hk];exact⟨by simp,by simp,by simp⟩|true=>rw[aPy hk];exact aGk (ws:=h.Words) (gs:=h.Guests) ⟨hs.words,hs.guests,hs.all⟩)
theorem aUy{f:DSlot->DSlot}{gs:List DGuest}(hf:∀s∈M.slots gs,f s=s):gs.map (M.mapG f)=gs:=by
 have:∀g∈gs,M.mapG f g=g:=λg hg=>by have:g.Pages.map f=g.Pages:=(by have:g.Pages.map f=g.Pages.map id:=List.map_congr_left λs hs=>hf s (List.mem_flatMap.2 ⟨g,hg,hs⟩);rw[this,List.map_id]);unfold M.mapG;rw[this]
 have e:gs.map (M.mapG f)=gs.map id:=List.map_congr_left this;rw[e,List.map_id]
theorem aVw(hk:M.hostOk h=true):M.hostShare (M.hostShare h)=M.hostShare h:=by
 have ok:=tM hk;have kk:=dJ.1 ok;have ew:(M.hostShare h).Words=h.Words:=(by rw[pH hk]);have hfirst:∀s∈M.slots (M.hostShare h).Guests,M.shareS (M.hostShare h).Words (M.slots (M.hostShare h).Guests) s=s:=λs hs=>by have hx:=List.all_eq_true.1 (dA kk.all) s hs;have hr:=cD hx;by_cases e:s.Frame=-1;{exact uK e};{rw[sR e];obtain⟨o,o1,o2,o3,o4,o5,-⟩:=qJ (ws:=(M.hostShare h).Words) (ss:=M.slots (M.hostShare h).Guests) (f:=s.Frame) (by omega) hr.2 (tE hs);have:o=s.Frame.toNat:=aIv hk o4 (by rw[show((s.Frame.toNat:Nat):Int)=s.Frame by omega];exact tE hs) (by rw[<-ew];exact o5);rw[o3,show(o:Int)=s.Frame by omega]}
 have e1:M.sharedG (M.hostShare h)=(M.hostShare h).Guests:=aUy hfirst;have e2:(M.hostShare h).Guests.map (M.mapG (M.aloneS (M.slots (M.hostShare h).Guests)))=(M.hostShare h).Guests:=aUy λs hs=>by unfold M.aloneS;have ha:=List.all_eq_true.1 kk.alone s hs;(cases hw:s.Write with|false=>rfl|true=>rw[hw]at ha;have:=of_decide_eq_true ha;rw[decide_eq_false (by omega)];rfl)
 have e3:=pH ok;rw[e1,e2]at e3;exact e3
end
section
variable {h : DHost}
theorem zJ{ws:List Int}{s:DSlot}:M.zeroS ws s=s\/(M.zeroS ws s=⟨-1,false,false⟩/\s.Dirty=false/\(s.Frame=-1\/(M.page ws s.Frame.toNat).all (λw=>decide (w=0))=true)):=by
 unfold M.zeroS;cases e:(!s.Dirty&&(decide (s.Frame=-1)||(M.page ws s.Frame.toNat).all (λw=>decide (w=0))))with
 |false=>exact .inl rfl
 |true=>right;rw[Bool.and_eq_true,Bool.not_eq_true',Bool.or_eq_true,decide_eq_true_eq]at e;exact⟨rfl,e⟩
theorem uW(hk:M.hostOk h=true):M.hostZero h=⟨h.Words,h.Guests.map (M.mapG (M.zeroS h.Words))⟩:=by unfold M.hostZero;rw[hk];rfl
theorem aGr{ws:List Int}{q:Int}(hq:q≠-1):∀{ss:List DSlot},M.many (ss.map (M.zeroS ws)) q<=M.many ss q
 |[]=>Nat.le_refl _
 |s::ss=>by rw[List.map_cons,aFj,aFj];have:=aGr (ws:=ws) hq (ss:=ss);rcases zJ (ws:=ws) (s:=s)with e|⟨e,-⟩;{rw[e];omega};{rw[e];simp only;rw[if_neg (by omega)];omega}
theorem aBe(hk:M.hostOk h=true):M.hostOk (M.hostZero h)=true:=by
 have k:=dJ.1 hk;rw[uW hk,dJ];refine⟨k.len,k.words,by simp[k.three],aDa k.all λs hs=>?_,?_⟩;{rcases zJ (ws:=h.Words) (s:=s)with e|⟨e,-⟩;{rw[e];exact List.all_eq_true.1 (dA k.all) s hs};{rw[e];rfl}}
 · simp only[wO]
   unfold M.alone;rw[List.all_eq_true];intro t ht;obtain⟨s,hs,rfl⟩:=List.mem_map.1 ht;have hx:=List.all_eq_true.1 (dA k.all) s hs;have ha:=List.all_eq_true.1 k.alone s hs;rcases zJ (ws:=h.Words) (s:=s)with e|⟨e,-⟩
   · rw[e]
     cases hw:s.Write with
     |false=>rfl
     |true=>
      have hf:s.Frame≠-1:=λq=>by rw[(aCr hx q).1]at hw;cases hw
      rw[hw]at ha;have h1:=of_decide_eq_true ha;have h2:=aGr (ws:=h.Words) hf (ss:=M.slots h.Guests);exact decide_eq_true (by omega)
   {rw[e];rfl}
theorem bDl(hs:SmallH h)(hk:M.hostOk h=true){k:Nat}(h3:k<3):M.hostView (M.hostZero h) (k:Int)=M.hostView h (k:Int):=by have kk:=dJ.1 hk;have ok:=aBe hk;rw[uW hk]at ok ⊢;refine aRi hs hk ok (λs hss a ha=>?_) h3;have hx:=List.all_eq_true.1 (dA kk.all) s hss;have hr:=cD hx;rcases zJ (ws:=h.Words) (s:=s)with e|⟨e,-,e2⟩;{rw[e]};{rw[e];simp only;rw[if_pos (by omega)];rcases e2 with e2|e2;{rw[if_pos (by omega)]};{split;{rfl};{have hl:=kk.len;have hm:(M.page h.Words s.Frame.toNat).getD a default∈M.page h.Words s.Frame.toNat:=dB (by unfold M.page;rw[kJ (by omega)];exact ha);have:=of_decide_eq_true (List.all_eq_true.1 e2 _ hm);unfold M.page at this;rw[rZ ha]at this;exact this.symm}}}
theorem bEt(hk:M.hostOk h=true):(M.hostFree h).length<=(M.hostFree (M.hostZero h)).length:=by have e1:M.hostFree h=M.free (M.slots h.Guests):=(by unfold M.hostFree;rw[hk];rfl);have e2:M.hostFree (M.hostZero h)=M.free (M.slots (M.hostZero h).Guests):=(by unfold M.hostFree;rw[aBe hk];rfl);rw[e1,e2];refine aRo λf hf hm=>?_;rw[uW hk];simp only[wO];have:=aGr (ws:=h.Words) (q:=(f:Int)) (by omega) (ss:=M.slots h.Guests);omega
theorem aIw(hs:SmallH h):SmallH (M.hostZero h):=by
 (cases hk:M.hostOk h with|false=>unfold M.hostZero;rw[hk];exact⟨by simp,by simp,by simp⟩|true=>rw[uW hk];exact aGk (ws:=h.Words) (gs:=h.Guests) ⟨hs.words,hs.guests,hs.all⟩)
theorem bAl{ws:List Int}{s:DSlot}:(M.zeroS ws s).Dirty=s.Dirty:=by rcases zJ (ws:=ws) (s:=s)with e|⟨e,e2,-⟩;{rw[e]};{rw[e,e2]}
end
end Go.Proofs.Ytkjabgefacfpfaa
namespace Go.Proofs.Ytkjabgefacfpfaa
set_option linter.all false
theorem aNu{xs:List DSlot}(h:xs.length<=1048576):lW xs=some xs:=by unfold lW;rw[aD ⟨by omega,by omega,by omega⟩,aTo (by simp)]
theorem aWp{g:DGuest}(h:M.guestOk g=true)(hl:g.Live=false):g=M.noGuest:=by unfold M.guestOk at h;rw[hl,cond_false,decide_eq_true_eq]at h;exact h
theorem aNm{g:DGuest}(hs:SmallG g)(h:M.guestOk g=true):hZ g=some g:=by unfold hZ;(cases hl:g.Live with|false=>have:=aWp h hl;subst this;rfl|true=>rw[Bool.not_true,cond_false,lD hs.c.regs,aNu hs.pages,lD hs.i,lD hs.o];simp only[Option.bind_some];rw[<-hl])
theorem bIe{g:DGuest}(hs:SmallG g)(h:M.guestOk g=true):mR g=some g:=by have:=hs.pages;have:=hs.i;have:=hs.o;unfold mR;(cases hl:g.Live with|false=>have:=aWp h hl;subst this;rfl|true=>rw[Bool.not_true,cond_false,bDw hs.c,Option.bind_some,aD ⟨by omega,by omega⟩,aD ⟨by omega,by omega⟩,aD ⟨by omega,by omega⟩,<-hl])
theorem tX{gs:List DGuest}(hl:gs.length<=1048576)(hs:∀g∈gs,SmallG g)(h:gs.all M.guestOk=true):eZ gs=some gs:=by
 unfold eZ;rw[aD ⟨by omega,by omega,by omega⟩]
 have key:=aHg (xs:=gs) (ys:=List.replicate (Int.toNat (gs.length:Int)) M.noGuest) (step:=fD gs) (by simp) (λk zs hk hz=>by
  have h1:(k:Int)<(gs.length:Int):=(by omega);simp only[fD,decide_eq_true h1,cond_true];rw[aD ⟨by omega,h1⟩,Int.toNat_natCast];show Option.bind (hZ (gs.getD k default)) _=_;rw[aNm (hs _ (dB hk)) (List.all_eq_true.1 h _ (dB hk)),Option.bind_some,aD ⟨by omega,by omega⟩,aC (by omega) (by omega)]) (λzs hz=>by
  simp only[fD];rw[decide_eq_false (by omega),cond_false])
 show Option.bind (Option.bind (iter (fD gs) (List.replicate (Int.toNat (gs.length:Int)) M.noGuest,0)) LO.val) _=_;rw[key];rfl
theorem aRs{h:DHost}(hs:SmallH h)(hg:h.Guests.all M.guestOk=true):kY h=some h:=by
 have:=hs.words;have:=hs.guests;unfold kY;rw[aD ⟨by simp;omega,by simp;omega⟩]
 have key:=(tH (xs:=h.Guests) (step:=nL h) (λs j=>(s,j)) (λs g=>s++[g]) (λs=>JO.go s) (λj s=>s.length=j) (λk g s a1 a2 a3 a4=>by
  refine⟨?_,by simp;omega⟩;simp only[nL,decide_eq_true a1,cond_true,Int.toNat_natCast,a3];rw[aD ⟨by omega,a1⟩];show Option.bind (mR g) _=_;rw[bIe (hs.all g a2) (List.all_eq_true.1 hg g a2),Option.bind_some,aD ⟨by omega,by omega⟩,aC (by omega) (by omega)]) (λs _=>by
  simp only[nL];rw[decide_eq_false (by omega),cond_false]) [] rfl).1
 rw[key]
 have e:∀(xs ys:List DGuest),xs.foldl (λs g=>s++[g]) ys=ys++xs:=by
  intro xs;induction xs with
  |nil=>intro ys;simp
  |cons x xs ih=>intro ys;rw[List.foldl_cons,ih];simp
 rw[e];rfl
namespace M
end M
end Go.Proofs.Ytkjabgefacfpfaa
namespace Go.Proofs.Ytkjabgefacfpfaa
set_option linter.all false
theorem sQ {R:Type} {f:DSlot->DSlot} {gs:List DGuest} {k:Nat} (hk:k<gs.length) {step:List DGuest×Int->Option (LO (List DGuest×Int) R)} (fin:List DGuest->R)
 (hs:∀j:Nat,j<(gs.getD k default).Pages.length->step (M.upGs f k j gs,(j:Int))=some (.next (M.upGs f k (j+1) gs,((j+1:Nat):Int))))
 (he:step (M.upGs f k (gs.getD k default).Pages.length gs,((gs.getD k default).Pages.length:Int))=some (.ret (fin (up (M.mapG f) (k+1) gs)))):
 iter step (up (M.mapG f) k gs,0)=some (.ret (fin (up (M.mapG f) (k+1) gs))):=by
 have key:=iB (n:=(gs.getD k default).Pages.length) (step:=step) (λj=>(M.upGs f k j gs,(j:Int))) (λ_=>true) (fin (up (M.mapG f) (k+1) gs)) (fin (up (M.mapG f) (k+1) gs)) (λj hj _=>by rw[hs j hj,cond_true]) (λ_=>he);rw[Bool.cond_self]at key;rw[<-bBx hk];exact key
theorem qD {R:Type} {f:DSlot->DSlot} {gs:List DGuest} {step:List DGuest×Int->Option (LO (List DGuest×Int) R)} (fin:List DGuest->R)
 (hs:∀k:Nat,k<gs.length->step (up (M.mapG f) k gs,(k:Int))=some (.next (up (M.mapG f) (k+1) gs,((k+1:Nat):Int))))
 (he:step (gs.map (M.mapG f),(gs.length:Int))=some (.ret (fin (gs.map (M.mapG f))))):
 iter step (gs,0)=some (.ret (fin (gs.map (M.mapG f)))):=by
 have key:=iB (n:=gs.length) (step:=step) (λk=>(up (M.mapG f) k gs,(k:Int))) (λ_=>true) (fin (gs.map (M.mapG f))) (fin (gs.map (M.mapG f))) (λk hk _=>by rw[hs k hk,cond_true]) (λ_=>by rw[bEu (Nat.le_refl _)];exact he);rw[Bool.cond_self]at key;have e:up (M.mapG f) 0 gs=gs:=aXm;rw[e]at key;exact key
theorem aVx{a b:List Int}(h:a.length=b.length)(h8:a.length<=1048576):nK a b=some (decide (a=b)):=by
 unfold nK
 have key:=vQ (n:=a.length) (step:=kP a b) (λk=>k) (λi=>decide (a.getD i default=b.getD i default)) (.go ()) (.out false) (λi hi=>by
  simp only[kP,Int.toNat_natCast];rw[decide_eq_true (p:=(i:Int)<_) (by omega),cond_true,aD ⟨by omega,by omega⟩,aD ⟨by omega,by omega⟩,aC (by omega) (by omega)];cases decide (a.getD i default=b.getD i default)<;>rfl) (by
  simp only[kP];rw[decide_eq_false (by omega),cond_false])
 rw[key]
 have e:(List.range a.length).all (λi=>decide (a.getD i default=b.getD i default))=decide (a=b):=by
  apply dbe;rw[List.all_eq_true,decide_eq_true_eq];constructor;{intro hh;exact aDm rfl h.symm λi hi=>of_decide_eq_true (hh i (List.mem_range.2 hi))}
  · rintro rfl i _;exact decide_eq_true rfl
 rw[e];cases decide (a=b)<;>rfl
theorem aVf{ws:List Int}{ss:List DSlot}{f:Int}(hw:ws.length=160)(hss:ss.all M.slotOk=true)(h0:0<=f)(h1:f<20)(hm:0<M.many ss f):mJ ws (M.takers ss) f=some (M.firstIn ws ss f):=by
 have hl:=lH hss;obtain⟨o,o1,o2,o3,o4,o5,o6⟩:=qJ (ws:=ws) h0 h1 hm;unfold mJ;have step:∀i:Nat,i<f.toNat->fY ws (M.takers ss) f (i:Int)=some (bif M.alike ws ss f i then .ret (.out (i:Int))else .next ((i:Int)+1)):=λi hi=>by simp only[fY,Int.toNat_natCast];rw[decide_eq_true (p:=(i:Int)<f) (by omega),cond_true,aD ⟨by omega,by omega⟩,aDw (by omega) (by omega) (by omega),aDw h0 (by omega) (by omega)];show Option.bind (cond (decide ((0:Int)<(M.takers ss).getD i default)) _ _) _=_;rw[jG hss (by omega)];have e:M.alike ws ss f i=(decide (0<M.many ss (i:Int))&&decide (M.page ws i=M.page ws f.toNat)):=rfl;rw[e];by_cases q:0<M.many ss (i:Int);{rw[decide_eq_true (p:=(0:Int)<(M.many ss (i:Int):Int)) (by omega),decide_eq_true q,Bool.true_and];simp only[cond_true,Option.bind_some,Int.toNat_natCast];rw[aVx (by unfold M.page;rw[kJ (by omega),kJ (by omega)]) (by unfold M.page;rw[kJ (by omega)];omega),Option.bind_some];(cases decide (M.page ws i=M.page ws f.toNat)with|true=>rfl|false=>simp only[cond_false,Option.bind_some,JO.run,nC];rw[aC (by omega) (by omega)])};{rw[decide_eq_false (p:=(0:Int)<(M.many ss (i:Int):Int)) (by omega),decide_eq_false q,Bool.false_and];simp only[cond_false,Option.bind_some,JO.run,nC];rw[aC (by omega) (by omega)]}
 have key:∀n i:Nat,i+n=o->iter (fY ws (M.takers ss) f) (i:Int)=some (.ret (bif decide ((o:Int)<f)then .out (o:Int)else .go ())):=by
  intro n;induction n with
  |zero=>intro i hi;have:i=o:=(by omega);subst this;by_cases q:(i:Int)<f;{rw[cB,step i (by omega),decide_eq_true q];have:M.alike ws ss f i=true:=(by unfold M.alike;rw[decide_eq_true o4,decide_eq_true o5];rfl);rw[this];rfl};{rw[cB,decide_eq_false q];simp only[fY];rw[decide_eq_false q];rfl}
  |succ n ih=>intro i hi;rw[cB,step i (by omega),o6 i (by omega)];have:=ih (i+1) (by omega);simpa using this
 have:=key o 0 (by omega);rw[show((0:Nat):Int)=0 from rfl]at this;rw[this,o3];by_cases q:(o:Int)<f;{rw[decide_eq_true q];rfl};{rw[decide_eq_false q];simp only[cond_false,Option.bind_some,LO.val,JO.run,tT];rw[show(o:Int)=f by omega]}
theorem bEn{h:DHost}(hs:SmallH h)(hk:HOk h):jL h=some (M.sharedG h):=by
 have h3:=hk.three;have hall:=hk.all;have hss:=dA hall;unfold jL;rw[aEd hs.guests hall,Option.bind_some,tX hs.guests hs.all hall,Option.bind_some]
 have key:=qD (f:=M.shareS h.Words (M.slots h.Guests)) (gs:=h.Guests) (step:=gK h (M.takers (M.slots h.Guests))) (λs=>JO.go s) (λk hk3=>by
  have hpl:=(dC (List.all_eq_true.1 hall _ (dB hk3))).2;simp only[gK,decide_eq_true (show(k:Int)<(h.Guests.length:Int) by omega),cond_true]
  rw[aD ⟨by omega,by omega⟩,sQ hk3 (λs=>JO.go s) (λj hj=>by
   have hm:=sN hk3 hj;have hx:=List.all_eq_true.1 hss _ hm;have hr:=cD hx;have hgl:=sE (f:=M.shareS h.Words (M.slots h.Guests)) (k:=k) (j:=j) (gs:=h.Guests);have hpl2:=oY (f:=M.shareS h.Words (M.slots h.Guests)) (j:=j) hk3;have hsl:=aHc (f:=M.shareS h.Words (M.slots h.Guests)) hk3 hj;simp only[kX,Int.toNat_natCast];rw[decide_eq_true (p:=(j:Int)<_) (by omega),cond_true,aD ⟨by omega,by omega⟩];by_cases e:((h.Guests.getD k default).Pages.getD j default).Frame=-1;{rw[decide_eq_true e];simp only[Bool.not_true,cond_false,Option.bind_some,JO.run,kU];rw[aC (by omega) (by omega),mW hk3 hj (uK e)];rfl}
   · rw[decide_eq_false e,Bool.not_false,cond_true,aD ⟨by omega,by omega⟩,aVf hk.len hss (by omega) hr.2 (tE hm),Option.bind_some,aD ⟨by omega,by omega⟩];simp only[Option.bind_some,JO.run,kU];rw[aC (by omega) (by omega)];have:=uT (f:=M.shareS h.Words (M.slots h.Guests)) hk3 hj (s:=M.shareS h.Words (M.slots h.Guests) ((h.Guests.getD k default).Pages.getD j default)) rfl;rw[<-this,sR e,hsl];rfl) (by
   simp only[kX,Int.toNat_natCast];rw[decide_eq_false (by omega),cond_false,uY hk3 (Nat.le_refl _)])]
  simp only[Option.bind_some,LO.val,JO.run,qS];rw[aC (by omega) (by omega)];rfl) (by
  simp only[gK];rw[decide_eq_false (by omega),cond_false])
 rw[key];rfl
theorem xT{ss:List DSlot}{s:DSlot}(h:s.Write=false\/M.many ss s.Frame<=1):M.aloneS ss s=s:=by unfold M.aloneS;rcases h with h|h;{rw[h];rfl};{rw[decide_eq_false (by omega),Bool.and_false];rfl}
theorem aPc{ss:List DSlot}{s:DSlot}(h:1<M.many ss s.Frame):M.aloneS ss s=⟨s.Frame,false,s.Dirty⟩:=by unfold M.aloneS;rw[decide_eq_true h,Bool.and_true];obtain⟨f,w,d⟩:=s;cases w<;>rfl
theorem aOp{gs:List DGuest}(hl:gs.length=3)(hsm:∀g∈gs,SmallG g)(hall:gs.all M.guestOk=true):kO gs=some (gs.map (M.mapG (M.aloneS (M.slots gs)))):=by
 have hss:=dA hall;have htl:=lH hss;unfold kO;rw[aEd (by omega) hall,Option.bind_some,tX (by omega) hsm hall,Option.bind_some]
 have key:=qD (f:=M.aloneS (M.slots gs)) (gs:=gs) (step:=hG gs (M.takers (M.slots gs))) (λs=>JO.go s) (λk hk3=>by
  have hpl:=(dC (List.all_eq_true.1 hall _ (dB hk3))).2;simp only[hG,decide_eq_true (show(k:Int)<(gs.length:Int) by omega),cond_true]
  rw[aD ⟨by omega,by omega⟩,sQ hk3 (λs=>JO.go s) (λj hj=>by
   have hm:=sN hk3 hj;have hx:=List.all_eq_true.1 hss _ hm;have hr:=cD hx;have hgl:=sE (f:=M.aloneS (M.slots gs)) (k:=k) (j:=j) (gs:=gs);have hpl2:=oY (f:=M.aloneS (M.slots gs)) (j:=j) hk3;have hsl:=aHc (f:=M.aloneS (M.slots gs)) hk3 hj;simp only[lZ,Int.toNat_natCast];rw[decide_eq_true (p:=(j:Int)<_) (by omega),cond_true,aD ⟨by omega,by omega⟩];cases hw:((gs.getD k default).Pages.getD j default).Write with
   |false=>simp only[cond_false,Option.bind_some,JO.run,hT];rw[aC (by omega) (by omega),mW hk3 hj (xT (.inl hw))];rfl
   |true=>
    have e:((gs.getD k default).Pages.getD j default).Frame≠-1:=λq=>by rw[(aCr hx q).1]at hw;cases hw
    rw[cond_true,aD ⟨by omega,by omega⟩];show Option.bind (cond (decide ((1:Int)<(M.takers (M.slots gs)).getD ((gs.getD k default).Pages.getD j default).Frame.toNat default)) _ _) _=_;rw[jG hss (by omega),show((((gs.getD k default).Pages.getD j default).Frame.toNat:Nat):Int)=((gs.getD k default).Pages.getD j default).Frame by omega];by_cases q:1<M.many (M.slots gs) ((gs.getD k default).Pages.getD j default).Frame;{rw[decide_eq_true (by omega),cond_true,aD ⟨by omega,by omega⟩,aD ⟨by omega,by omega⟩];simp only[Option.bind_some,JO.run,hT];rw[aC (by omega) (by omega)];have:=uT (f:=M.aloneS (M.slots gs)) hk3 hj (s:=M.aloneS (M.slots gs) ((gs.getD k default).Pages.getD j default)) rfl;rw[<-this,aPc q,hsl];rfl}
    · rw[decide_eq_false (by omega),cond_false];simp only[Option.bind_some,JO.run,hT];rw[aC (by omega) (by omega),mW hk3 hj (xT (.inr (by omega)))];rfl) (by
   simp only[lZ,Int.toNat_natCast];rw[decide_eq_false (by omega),cond_false,uY hk3 (Nat.le_refl _)])]
  simp only[Option.bind_some,LO.val,JO.run,rI];rw[aC (by omega) (by omega)];rfl) (by
  simp only[hG];rw[decide_eq_false (by omega),cond_false])
 rw[key];rfl
theorem aBi{h:DHost}(hs:SmallH h):eK h=some (M.hostShare h):=by unfold eK;rw[pU hs,Option.bind_some];(cases hk:M.hostOk h with|false=>unfold M.hostShare;rw[hk];rfl|true=>have k:=dJ.1 hk;have sm:SmallH ⟨h.Words,M.sharedG h⟩:=aGk (ws:=h.Words) (gs:=h.Guests) ⟨hs.words,hs.guests,hs.all⟩;rw[Bool.not_true,cond_false,lD hs.words,Option.bind_some,bEn hs k,Option.bind_some,aOp (by unfold M.sharedG;rw[List.length_map];exact k.three) sm.all (aGa k),Option.bind_some,pH hk])
end Go.Proofs.Ytkjabgefacfpfaa
namespace Go.Proofs.Ytkjabgefacfpfaa
set_option linter.all false
theorem bLh{h:DHost}{a b:Int}(hw:h.Words.length=160)(a0:0<=a)(a1:a<20)(b0:0<=b)(b1:b<20):rP h a b=some (decide (M.page h.Words a.toNat=M.page h.Words b.toNat)):=by
 unfold rP;have la:(M.page h.Words a.toNat).length=8:=(by unfold M.page;exact kJ (by omega));have lb:(M.page h.Words b.toNat).length=8:=by unfold M.page;exact kJ (by omega)
 have key:=vQ (n:=8) (step:=nF h a b) (λk=>k) (λi=>decide (h.Words.getD (a.toNat*8+i) default=h.Words.getD (b.toNat*8+i) default)) (.go ()) (.out false) (λi hi=>by
  simp only[nF];have e1:w64 (w64 (a*8)+(i:Int))=a*8+i:=(by rw[aC (z:=a*8) (by omega) (by omega),aC (by omega) (by omega)]);have e2:w64 (w64 (b*8)+(i:Int))=b*8+i:=(by rw[aC (z:=b*8) (by omega) (by omega),aC (by omega) (by omega)]);simp only[e1,e2,show(a*8+(i:Int)).toNat=a.toNat*8+i by omega,show(b*8+(i:Int)).toNat=b.toNat*8+i by omega];rw[decide_eq_true (p:=(i:Int)<8) (by omega),cond_true,aD ⟨by omega,by omega⟩,aD ⟨by omega,by omega⟩,aC (by omega) (by omega)];cases decide (h.Words.getD (a.toNat*8+i) default=h.Words.getD (b.toNat*8+i) default)<;>rfl) (by
  simp only[nF];rfl)
 rw[key];have e:(List.range 8).all (λi=>decide (h.Words.getD (a.toNat*8+i) default=h.Words.getD (b.toNat*8+i) default))=decide (M.page h.Words a.toNat=M.page h.Words b.toNat):=(by apply dbe;rw[List.all_eq_true,decide_eq_true_eq];constructor;{intro hh;refine aDm la lb λi hi=>?_;unfold M.page;rw[rZ hi,rZ hi];exact of_decide_eq_true (hh i (List.mem_range.2 hi))};{intro hp i hi;exact decide_eq_true (aQg hp (List.mem_range.1 hi))});rw[e];cases decide (M.page h.Words a.toNat=M.page h.Words b.toNat)<;>rfl
def oL(ws:List Int)(ss:List DSlot)(f:Int)(m:Nat):Int:=match (List.range 20).find? (λo=>decide (m<=o)&&M.alike ws ss f o)with
 |some o=>(o:Int)
 |none=>f
section
variable {ws : List Int} {ss : List DSlot} {f : Int}
theorem bGc:oL ws ss f 0=M.firstIn ws ss f:=by unfold oL M.firstIn;have:(λo=>decide (0<=o)&&M.alike ws ss f o)=M.alike ws ss f:=(by funext o;rw[decide_eq_true (Nat.zero_le o),Bool.true_and]);rw[this];try rfl
theorem bJm:oL ws ss f 20=f:=by
 unfold oL;cases e:(List.range 20).find? (λo=>decide (20<=o)&&M.alike ws ss f o)with
 |none=>rfl
 |some o=>obtain⟨a,b,-⟩:=tV.1 e;rw[Bool.and_eq_true,decide_eq_true_eq]at b;omega
theorem bJw{m:Nat}(h:0<=f):0<=oL ws ss f m:=by unfold oL;split<;>omega
theorem bGs{m:Nat}(hm:m<20):oL ws ss f m=bif M.alike ws ss f m then(m:Int)else oL ws ss f (m+1):=by
 (cases ha:M.alike ws ss f m with|true=>have:(List.range 20).find? (λo=>decide (m<=o)&&M.alike ws ss f o)=some m:=tV.2 ⟨hm,by rw[ha,decide_eq_true (Nat.le_refl m)];rfl,λj hj=>by rw[decide_eq_false (by omega),Bool.false_and]⟩;unfold oL;rw[this];rfl|false=>unfold oL;have:(λo=>decide (m<=o)&&M.alike ws ss f o)=(λo=>decide (m+1<=o)&&M.alike ws ss f o):=(by funext o;by_cases e:o=m;{subst e;rw[ha,Bool.and_false,Bool.and_false]};{congr 1;rw[decide_eq_decide];omega});rw[this];rfl)
end
theorem bDg{h:DHost}{k j:Nat}{s11 s13:List DGuest×Int}(e1:s11.2=(k:Int))(e2:s13.2=(j:Int))(hk:HOk h)(hk3:k<h.Guests.length)(hj:j<(h.Guests.getD k default).Pages.length)(h0:0<=((h.Guests.getD k default).Pages.getD j default).Frame)(h1:((h.Guests.getD k default).Pages.getD j default).Frame<20):
 iter (dN h (M.takers (M.slots h.Guests)) s11 s13) (((h.Guests.getD k default).Pages.getD j default).Frame,19)=some (.ret (.go (M.firstIn h.Words (M.slots h.Guests) ((h.Guests.getD k default).Pages.getD j default).Frame))):=by
 have hss:=dA hk.all;have hl:=lH hss;have hw:=hk.len;generalize hf:((h.Guests.getD k default).Pages.getD j default).Frame=f at h0 h1
 have key:∀n:Nat,n<=20->iter (dN h (M.takers (M.slots h.Guests)) s11 s13) (oL h.Words (M.slots h.Guests) f n,(n:Int)-1)=some (.ret (.go (oL h.Words (M.slots h.Guests) f 0))):=by
  intro n;induction n with
  |zero=>intro _;rw[cB];rfl
  |succ n ih=>intro hn;have hp:=bJw (ws:=h.Words) (ss:=M.slots h.Guests) (m:=n+1) h0;have st:dN h (M.takers (M.slots h.Guests)) s11 s13 (oL h.Words (M.slots h.Guests) f (n+1),(n:Int))=some (.next (oL h.Words (M.slots h.Guests) f n,(n:Int)-1)):=(by simp only[dN,e1,e2,Int.toNat_natCast,hf];rw[decide_eq_true (p:=(0:Int)<=(n:Int)) (by omega),cond_true,decide_eq_true hp,cond_true,aD ⟨by omega,by omega⟩,bGs (m:=n) (by omega)];have ea:M.alike h.Words (M.slots h.Guests) f n=(decide (0<M.many (M.slots h.Guests) (n:Int))&&decide (M.page h.Words n=M.page h.Words f.toNat)):=rfl;rw[ea];by_cases q:0<M.many (M.slots h.Guests) (n:Int);{rw[decide_eq_true (p:=(0:Int)<(M.takers (M.slots h.Guests)).getD n default) (by rw[jG hss (by omega)];omega),cond_true,aD ⟨by omega,by omega⟩,aD ⟨by omega,by omega⟩,bLh hw (by omega) (by omega) h0 h1,Option.bind_some,decide_eq_true q,Bool.true_and,Int.toNat_natCast];(cases decide (M.page h.Words n=M.page h.Words f.toNat)with|true=>simp only[cond_true,Option.bind_some,JO.run,jN];rw[aC (by omega) (by omega)]|false=>simp only[cond_false,Option.bind_some,JO.run,jN];rw[aC (by omega) (by omega)])};{rw[decide_eq_false (p:=(0:Int)<(M.takers (M.slots h.Guests)).getD n default) (by rw[jG hss (by omega)];omega),cond_false,decide_eq_false q,Bool.false_and];simp only[cond_false,Option.bind_some,JO.run,jN];rw[aC (by omega) (by omega)]});rw[show((n+1:Nat):Int)-1=(n:Int) by omega,cB,st];exact ih (by omega)
 have:=key 20 (Nat.le_refl _);rw[bJm,bGc]at this;exact this
theorem aJp{h:DHost}(hs:SmallH h):gX h=some (M.hostShare h):=by
 unfold gX;rw[zK hs,Option.bind_some];cases hok:M.hostOk h with
 |false=>unfold M.hostShare;rw[hok];rfl
 |true=>
  have hk:=dJ.1 hok;have h3:=hk.three;have hall:=hk.all;have hss:=dA hall;have gk:=aGa hk;have gss:=dA gk;have gtl:=lH gss;have g3:(M.sharedG h).length=3:=(by unfold M.sharedG;rw[List.length_map];exact h3);rw[Bool.not_true,cond_false,aRs hs hall,Option.bind_some,bEa hs hk,Option.bind_some]
  have key:=qD (f:=M.shareS h.Words (M.slots h.Guests)) (gs:=h.Guests) (step:=jP h (M.takers (M.slots h.Guests))) (λs=>JO.go s) (λk hk3=>by
   have hpl:=(dC (List.all_eq_true.1 hall _ (dB hk3))).2;simp only[jP,decide_eq_true (show(k:Int)<3 by omega),cond_true]
   rw[sQ hk3 (λs=>JO.go s) (λj hj=>by
    have hm:=sN hk3 hj;have hx:=List.all_eq_true.1 hss _ hm;have hr:=cD hx;have hgl:=sE (f:=M.shareS h.Words (M.slots h.Guests)) (k:=k) (j:=j) (gs:=h.Guests);have hpl2:=oY (f:=M.shareS h.Words (M.slots h.Guests)) (j:=j) hk3;have put:=uT (f:=M.shareS h.Words (M.slots h.Guests)) hk3 hj (s:=M.shareS h.Words (M.slots h.Guests) ((h.Guests.getD k default).Pages.getD j default)) rfl;simp only[nD,Int.toNat_natCast];rw[aD ⟨by omega,by omega⟩,decide_eq_true (p:=(j:Int)<_) (by omega),cond_true,aD ⟨by omega,by omega⟩,aD ⟨by omega,by omega⟩];by_cases e:((h.Guests.getD k default).Pages.getD j default).Frame=-1
    · have he:iter (dN h (M.takers (M.slots h.Guests)) (up (M.mapG (M.shareS h.Words (M.slots h.Guests))) k h.Guests,(k:Int)) (M.upGs (M.shareS h.Words (M.slots h.Guests)) k j h.Guests,(j:Int))) (((h.Guests.getD k default).Pages.getD j default).Frame,19)=some (.ret (.go ((h.Guests.getD k default).Pages.getD j default).Frame)):=by
       rw[cB];simp only[dN];rw[decide_eq_true (p:=(0:Int)<=19) (by omega),cond_true,decide_eq_false (by omega),cond_false]
      rw[he];simp only[Option.bind_some,LO.val,JO.run,nN,gC,Int.toNat_natCast];rw[aD ⟨by omega,by omega⟩,aD ⟨by omega,by omega⟩];simp only[Option.bind_some,JO.run,gC];rw[aC (by omega) (by omega),<-put,uK e];rfl
    · rw[bDg (s11:=(_,(k:Int))) (s13:=(_,(j:Int))) rfl rfl hk hk3 hj (by omega) hr.2];simp only[Option.bind_some,LO.val,JO.run,nN,gC,Int.toNat_natCast];rw[aD ⟨by omega,by omega⟩,aD ⟨by omega,by omega⟩];simp only[Option.bind_some,JO.run,gC];rw[aC (by omega) (by omega),<-put,sR e];rfl) (by
    simp only[nD,Int.toNat_natCast];rw[aD ⟨by omega,by omega⟩,decide_eq_false (by omega),cond_false,uY hk3 (Nat.le_refl _)])]
   simp only[Option.bind_some,LO.val,JO.run,tU];rw[aC (by omega) (by omega)];rfl) (by
   simp only[jP];rw[decide_eq_false (by omega),cond_false])
  rw[key];simp only[Option.bind_some,LO.val,JO.run,uE];show Option.bind (gF ⟨h.Words,M.sharedG h⟩) _=_;rw[aWs g3 gk,Option.bind_some];show Option.bind (Option.bind (iter (gS (M.takers (M.slots (M.sharedG h)))) (M.sharedG h,0)) LO.val) _=_
  have key2:=qD (f:=M.aloneS (M.slots (M.sharedG h))) (gs:=M.sharedG h) (step:=gS (M.takers (M.slots (M.sharedG h)))) (λs=>JO.go s) (λk hk3=>by
   have hpl:=(dC (List.all_eq_true.1 gk _ (dB hk3))).2;simp only[gS,decide_eq_true (show(k:Int)<3 by omega),cond_true]
   rw[sQ hk3 (λs=>JO.go s) (λj hj=>by
    have hm:=sN hk3 hj;have hx:=List.all_eq_true.1 gss _ hm;have hr:=cD hx;have hgl:=sE (f:=M.aloneS (M.slots (M.sharedG h))) (k:=k) (j:=j) (gs:=M.sharedG h);have hpl2:=oY (f:=M.aloneS (M.slots (M.sharedG h))) (j:=j) hk3;have hsl:=aHc (f:=M.aloneS (M.slots (M.sharedG h))) hk3 hj;have put:=uT (f:=M.aloneS (M.slots (M.sharedG h))) hk3 hj (s:=M.aloneS (M.slots (M.sharedG h)) (((M.sharedG h).getD k default).Pages.getD j default)) rfl;simp only[oC,Int.toNat_natCast,hsl];rw[aD ⟨by omega,by omega⟩,decide_eq_true (p:=(j:Int)<_) (by omega),cond_true,aD ⟨by omega,by omega⟩,aD ⟨by omega,by omega⟩];by_cases e:(((M.sharedG h).getD k default).Pages.getD j default).Frame=-1;{rw[decide_eq_false (by omega),cond_false];simp only[Option.bind_some,JO.run,jM];rw[aC (by omega) (by omega),mW hk3 hj (xT (.inl (aCr hx e).1))];rfl}
    · rw[decide_eq_true (by omega),cond_true,aD ⟨by omega,by omega⟩]
      have ef:(((((M.sharedG h).getD k default).Pages.getD j default).Frame.toNat:Nat):Int)=(((M.sharedG h).getD k default).Pages.getD j default).Frame:=(by omega);by_cases q:1<M.many (M.slots (M.sharedG h)) (((M.sharedG h).getD k default).Pages.getD j default).Frame;{rw[decide_eq_true (p:=(1:Int)<(M.takers (M.slots (M.sharedG h))).getD (((M.sharedG h).getD k default).Pages.getD j default).Frame.toNat default) (by rw[jG gss (by omega),ef];omega),cond_true,aD ⟨by omega,by omega⟩,aD ⟨by omega,by omega⟩];simp only[Option.bind_some,JO.run,jM];rw[aC (by omega) (by omega),<-put,aPc q];rfl}
      · rw[decide_eq_false (p:=(1:Int)<(M.takers (M.slots (M.sharedG h))).getD (((M.sharedG h).getD k default).Pages.getD j default).Frame.toNat default) (by rw[jG gss (by omega),ef];omega),cond_false];simp only[Option.bind_some,JO.run,jM];rw[aC (by omega) (by omega),mW hk3 hj (xT (.inr (by omega)))];rfl) (by
    simp only[oC,Int.toNat_natCast];have hgl:=sE (f:=M.aloneS (M.slots (M.sharedG h))) (k:=k) (j:=((M.sharedG h).getD k default).Pages.length) (gs:=M.sharedG h);have hpl2:=oY (f:=M.aloneS (M.slots (M.sharedG h))) (j:=((M.sharedG h).getD k default).Pages.length) hk3;rw[aD ⟨by omega,by omega⟩,decide_eq_false (by omega),cond_false,uY hk3 (Nat.le_refl _)])]
   simp only[Option.bind_some,LO.val,JO.run,uD];rw[aC (by omega) (by omega)];rfl) (by
   simp only[gS];rw[decide_eq_false (by omega),cond_false])
  rw[key2,pH hok];rfl
end Go.Proofs.Ytkjabgefacfpfaa
namespace Go.Proofs.Ytkjabgefacfpfaa
set_option linter.all false
noncomputable def oI (_:DSlot)(k:Int):DSlot×Int:=(⟨k,decide (Int.tmod (k+1) 3=0),decide (Int.tmod (k+1+1) 3=0)⟩,k+1+1+1)
theorem aLc(x:DSlot)(k:Int):k<=(oI x k).2/\(oI x k).2<=k+3:=by simp only[oI];omega
theorem kH{z:Int}(h0:0<=z)(h1:z<=1152921504606846976):w64 z=z:=aC (by omega) (by omega)
theorem aRr{xs:List DSlot}{k:Int}(h:xs.length<=1048576)(h0:0<=k)(h1:k<=4503599627370496):kK xs k=some ((cU oI xs k).1,(cU oI xs k).2):=by have key:=aQe (m:=oI) (C:=3) (B:=9007199254740992) (step:=gO) (xs:=xs) (k:=k) (λx _ k=>aLc x k) h0 (by omega) (by omega) (λzs i q hz hi _ hq hb=>by have e1:(i:Int)<(zs.length:Int):=(by omega);simp only[gO,decide_eq_true e1,cond_true];rw[aD ⟨by omega,e1⟩,Int.toNat_natCast,kH (z:=q+1) (by omega) (by omega),kH (z:=q+1+1) (by omega) (by omega),kH (z:=q+1+1+1) (by omega) (by omega),kH (z:=(i:Int)+1) (by omega) (by omega)];rw[aD ⟨by omega,e1⟩,aD ⟨by omega,e1⟩];rfl) (λzs q _=>by simp only[gO];rw[decide_eq_false (by omega),cond_false]);unfold kK;rw[key];rfl
theorem aRz{xs:List DSlot}{k:Int}(h:xs.length<=1048576)(h0:0<=k)(h1:k<=4503599627370496):nB (cU oI xs k).1 k=some (cU oI xs k).2:=by have key:=aPn (m:=oI) (C:=3) (B:=9007199254740992) (step:=kQ) (xs:=xs) (k:=k) (λx _ k=>aLc x k) h0 (by omega) (by omega) (λzs i x q hz hi _ hq hb hg=>by have e1:(i:Int)<(zs.length:Int):=(by omega);simp only[kQ,decide_eq_true e1,cond_true];rw[aD ⟨by omega,e1⟩,Int.toNat_natCast,hg,kH (z:=q+1) (by omega) (by omega),kH (z:=q+1+1) (by omega) (by omega),kH (z:=q+1+1+1) (by omega) (by omega),kH (z:=(i:Int)+1) (by omega) (by omega)];rw[aD ⟨by omega,e1⟩,aD ⟨by omega,e1⟩];simp[oI]) (λzs q _=>by simp only[kQ];rw[decide_eq_false (by omega),cond_false]);unfold nB;rw[key];rfl
noncomputable def jC (g:DGuest)(k:Int):DGuest×Int:=
 let q:=k+1+(g.C.Regs.length:Int);let p:=cU oI g.Pages (q+1+1+1+1+1+1+1+1+1+1+1+1)
 (⟨decide (Int.tmod k 3=0),⟨jB (k+1) g.C.Regs.length,q,q+1,q+1+1,q+1+1+1,decide (Int.tmod (q+1+1+1+1) 3=0),q+1+1+1+1+1,q+1+1+1+1+1+1,q+1+1+1+1+1+1+1,
  decide (Int.tmod (q+1+1+1+1+1+1+1+1) 3=0),decide (Int.tmod (q+1+1+1+1+1+1+1+1+1) 3=0),decide (Int.tmod (q+1+1+1+1+1+1+1+1+1+1) 3=0),decide (Int.tmod (q+1+1+1+1+1+1+1+1+1+1+1) 3=0)⟩,
  p.1,jB p.2 g.In.length,jB (p.2+g.In.length) g.Out.length⟩,p.2+g.In.length+g.Out.length)
theorem aGj{xs:List DSlot}{k:Int}(h:xs.length<=1048576):k<=(cU oI xs k).2/\(cU oI xs k).2<=k+3145728:=by have:=aJw (m:=oI) (C:=3) (xs:=xs) (k:=k) λx _ k=>aLc x k;omega
theorem aHi{g:DGuest}(h:SmallG g)(k:Int):k<=(jC g k).2/\(jC g k).2<=k+8388608:=by have:=h.c.regs;have:=h.i;have:=h.o;have:=aGj (k:=k+1+(g.C.Regs.length:Int)+1+1+1+1+1+1+1+1+1+1+1+1) h.pages;simp only[jC];omega
theorem aQo{xs:List DGuest}{k:Int}(h:xs.length<=1048576)(hs:∀g∈xs,SmallG g)(h0:0<=k)(h1:k<=4503599627370496-8796093022208-8388608):jA xs k=some ((cU jC xs k).1,(cU jC xs k).2):=by have key:=aQe (m:=jC) (C:=8388608) (B:=4503599627370496-8388608) (step:=fU) (xs:=xs) (k:=k) (λx hx k=>aHi (hs x hx) k) h0 (by omega) (by omega) (λzs i q hz hi hm hq hb=>by have hg:=hs _ hm;generalize hgg:zs.getD i default=g at hg;have:=hg.c.regs;have:=hg.pages;have:=hg.i;have:=hg.o;have e1:(i:Int)<(zs.length:Int):=(by omega);have g0:(0:Int)<=(i:Int)/\(i:Int)<(zs.length:Int):=⟨by omega,e1⟩;have hp:=aGj (k:=q+1+(g.C.Regs.length:Int)+1+1+1+1+1+1+1+1+1+1+1+1) hg.pages;simp only[fU,decide_eq_true e1,cond_true,Int.toNat_natCast,hgg,aD g0];rw[kH (z:=q+1) (by omega) (by omega),vF (by omega) (by omega) (by omega),Option.bind_some];simp only[];generalize hr:q+1+(g.C.Regs.length:Int)=r at hp;rw[aD (by rw[jH]),kH (z:=r+1) (by omega) (by omega),kH (z:=r+1+1) (by omega) (by omega),kH (z:=r+1+1+1) (by omega) (by omega),kH (z:=r+1+1+1+1) (by omega) (by omega),kH (z:=r+1+1+1+1+1) (by omega) (by omega),kH (z:=r+1+1+1+1+1+1) (by omega) (by omega),kH (z:=r+1+1+1+1+1+1+1) (by omega) (by omega),kH (z:=r+1+1+1+1+1+1+1+1) (by omega) (by omega),kH (z:=r+1+1+1+1+1+1+1+1+1) (by omega) (by omega),kH (z:=r+1+1+1+1+1+1+1+1+1+1) (by omega) (by omega),kH (z:=r+1+1+1+1+1+1+1+1+1+1+1) (by omega) (by omega),kH (z:=r+1+1+1+1+1+1+1+1+1+1+1+1) (by omega) (by omega),kH (z:=(i:Int)+1) (by omega) (by omega)];rw[aRr hg.pages (by omega) (by omega),Option.bind_some,aD (by rw[wN]),vF (by omega) (by simp only;omega) (by simp only;omega),Option.bind_some,aD (by rw[jH]),vF (by omega) (by simp only;omega) (by simp only;omega),Option.bind_some,aD (by rw[jH])];simp only[jC,hr]) (λzs q _=>by simp only[fU];rw[decide_eq_false (by omega),cond_false]);unfold jA;rw[key];rfl
theorem aQp{xs:List DGuest}{k:Int}(h:xs.length<=1048576)(hs:∀g∈xs,SmallG g)(h0:0<=k)(h1:k<=4503599627370496-8796093022208-8388608):mF (cU jC xs k).1 k=some (cU jC xs k).2:=by have key:=aPn (m:=jC) (C:=8388608) (B:=4503599627370496-8388608) (step:=jK) (xs:=xs) (k:=k) (λx hx k=>aHi (hs x hx) k) h0 (by omega) (by omega) (λzs i g q hz hi hm hq hb hgg=>by have hg:=hs _ hm;have:=hg.c.regs;have:=hg.pages;have:=hg.i;have:=hg.o;have e1:(i:Int)<(zs.length:Int):=(by omega);have g0:(0:Int)<=(i:Int)/\(i:Int)<(zs.length:Int):=⟨by omega,e1⟩;have hp:=aGj (k:=q+1+(g.C.Regs.length:Int)+1+1+1+1+1+1+1+1+1+1+1+1) hg.pages;unfold jK;rw[decide_eq_true e1,cond_true,aD g0,Int.toNat_natCast,hgg];simp(disch:=omega) only[jC,kH,beq_self_eq_true,decide_true,Bool.not_true,cond_false,aJb,Option.bind_some,decide_eq_false,aD g0,aRz hg.pages]) (λzs q _=>by simp only[jK];rw[decide_eq_false (by omega),cond_false]);unfold mF;rw[key];rfl
noncomputable def oH (h:DHost)(k:Int):DHost×Int:=(⟨jB k h.Words.length,(cU jC h.Guests (k+h.Words.length)).1⟩,(cU jC h.Guests (k+h.Words.length)).2)
theorem aMi{xs:List DGuest}{k:Int}(h:xs.length<=1048576)(hs:∀g∈xs,SmallG g):k<=(cU jC xs k).2/\(cU jC xs k).2<=k+8796093022208:=by have:=aJw (m:=jC) (C:=8388608) (xs:=xs) (k:=k) λx hx k=>aHi (hs x hx) k;omega
theorem vG{h:DHost}(hs:SmallH h){k:Int}(h0:0<=k)(h1:k<=1000000000):eU h k=some ((oH h k).1.Words,(oH h k).1.Guests,(oH h k).2):=by have:=hs.words;unfold eU;rw[vF (by omega) h0 (by omega),Option.bind_some,aD (by rw[jH]),aQo hs.guests hs.all (by simp only;omega) (by simp only;omega),Option.bind_some,aD (by rw[wN])];rfl
theorem aWb{h:DHost}(hs:SmallH h){k:Int}(h0:0<=k)(h1:k<=1000000000):eD (oH h k).1 k=some (oH h k).2:=by have:=hs.words;have:=aMi (k:=k+h.Words.length) hs.guests hs.all;unfold eD;simp only[oH];rw[aJb (by omega) h0 (by omega),Option.bind_some,decide_eq_false (by omega),cond_false,aQp hs.guests hs.all (by omega) (by omega),Option.bind_some,decide_eq_false (by omega),cond_false]
theorem aJi{h:DHost}(hs:SmallH h){k:Int}(h0:0<=k)(h1:k<=1000000000):eD ⟨(oH h k).1.Words,(oH h k).1.Guests⟩ k=some (oH h k).2:=aWb hs h0 h1
theorem aGi{h:DHost}{k:Int}:(oH h k).1.Words.length=h.Words.length/\(oH h k).1.Guests.length=h.Guests.length:=by simp[oH,jH,wN]
theorem aAm{h:DHost}(hs:SmallH h){k:Int}(h0:0<=k):0<=(oH h k).2:=by have:=aMi (k:=k+h.Words.length) hs.guests hs.all;simp only[oH];omega
end Go.Proofs.Ytkjabgefacfpfaa
namespace Go.Proofs.Ytkjabgefacfpfaa
set_option linter.all false
theorem aNt{h:DHost}(hf:FitH h):gL h=some true:=by unfold gL;obtain⟨v,hv,hs⟩:=aPp hf (left:=1048576) (by omega) (by omega);rw[hv];simp only[Option.bind_some];rcases hs with h0|⟨h0,-,hs⟩;{rw[bMf h0];rfl};{have hz:=aJe hs;have hp:=aAm hs (k:=1) (by omega);have hp2:=aAm hz (k:=1) (by omega);rw[decide_eq_false (by omega),cond_false];simp only[aQa hs,aBi hs,aJp hs,Option.bind_some,aAi hs,aAi hz,decide_true,Bool.not_true,cond_false,vG hs (k:=1) (by omega) (by omega),vG hz (k:=1) (by omega) (by omega),aGi,aJi hz (k:=1) (by omega) (by omega)];rw[aD True.intro,aD True.intro,decide_eq_false (by omega),cond_false,aD True.intro,aD True.intro,decide_eq_false (by omega)];rfl}
end Go.Proofs.Ytkjabgefacfpfaa
namespace Go.Proofs.Ytkjabgefacfpfaa
set_option linter.all false
end Go.Proofs.Ytkjabgefacfpfaa
namespace Go.Proofs.Ytkjabgefacfpfaa
set_option linter.all false
namespace M
def pageWords(ws:List Int)(s:DSlot):List Int:=bif decide (s.Frame=-1)then List.replicate 8 0 else page ws s.Frame.toNat
end M
section
variable {h : DHost} {g : Int} {x : DGuest}
theorem aWh{ws:List Int}{s:DSlot}(hw:ws.length=160)(hs:-1<=s.Frame/\s.Frame<20):nM ws s=some (M.pageWords ws s):=by unfold nM M.pageWords;by_cases e:s.Frame=-1;{rw[decide_eq_true e];rfl};{rw[decide_eq_false e,cond_false,cond_false,aDw (by omega) (by omega) (by omega)];rfl}
theorem aQm{ws:List Int}{s:DSlot}(hw:ws.length=160)(hs:-1<=s.Frame/\s.Frame<20):(M.pageWords ws s).length=8:=by unfold M.pageWords;by_cases e:s.Frame=-1;{rw[decide_eq_true e,cond_true,List.length_replicate]};{rw[decide_eq_false e,cond_false];exact kJ (by omega)}
end
section
variable {h : DHost} {g : Int} {x : DGuest}
end
end Go.Proofs.Ytkjabgefacfpfaa
namespace Go.Proofs.Ytkjabgefacfpfaa
set_option linter.all false
theorem aZn{a:List Int}(h8:a.length<=1048576):oN a=some (a.all λw=>decide (w=0)):=by
 unfold oN
 have key:=vQ (n:=a.length) (step:=lO a) (λk=>k) (λi=>decide (a.getD i default=0)) (.go ()) (.out false) (λi hi=>by
  simp only[lO,Int.toNat_natCast];rw[decide_eq_true (p:=(i:Int)<_) (by omega),cond_true,aD ⟨by omega,by omega⟩,aC (by omega) (by omega)];cases decide (a.getD i default=0)<;>rfl) (by
  simp only[lO];rw[decide_eq_false (by omega),cond_false])
 rw[key];have e:(List.range a.length).all (λi=>decide (a.getD i default=0))=a.all λw=>decide (w=0):=by apply dbe;rw[List.all_eq_true,List.all_eq_true];constructor;{intro hh x hx;obtain⟨i,hi,e⟩:=List.getElem_of_mem hx;have:=hh i (List.mem_range.2 hi);rwa[bO hi,e]at this};{intro hh i hi;exact hh _ (dB (List.mem_range.1 hi))}
 rw[e];cases a.all (λw=>decide (w=0))<;>rfl
theorem aQk{ws:List Int}{s:DSlot}:(M.pageWords ws s).all (λw=>decide (w=0))=(decide (s.Frame=-1)||(M.page ws s.Frame.toNat).all (λw=>decide (w=0))):=by unfold M.pageWords;cases decide (s.Frame=-1);{rw[cond_false,Bool.false_or]};{rw[cond_true,Bool.true_or];rfl}
theorem bJj{ws:List Int}{s:DSlot}(hw:ws.length=160)(hs:-1<=s.Frame/\s.Frame<20):kM ws s=some (!s.Dirty&&(decide (s.Frame=-1)||(M.page ws s.Frame.toNat).all (λw=>decide (w=0)))):=by unfold kM;(cases s.Dirty with|true=>rfl|false=>rw[Bool.not_false,cond_true,aWh hw hs,Option.bind_some,aZn (by rw[aQm hw hs];omega),Option.bind_some,aQk,Bool.true_and])
theorem aRu{ws:List Int}{s:DSlot}(h:(!s.Dirty&&(decide (s.Frame=-1)||(M.page ws s.Frame.toNat).all (λw=>decide (w=0))))=true):M.zeroS ws s=⟨-1,false,false⟩:=by unfold M.zeroS;rw[h];rfl
theorem aPo{ws:List Int}{s:DSlot}(h:(!s.Dirty&&(decide (s.Frame=-1)||(M.page ws s.Frame.toNat).all (λw=>decide (w=0))))=false):M.zeroS ws s=s:=by unfold M.zeroS;rw[h];rfl
theorem aSa{h:DHost}(hs:SmallH h)(hk:HOk h):mD h=some h:=by unfold mD;rw[lD hs.words,Option.bind_some,tX hs.guests hs.all hk.all];rfl
theorem aMh{h:DHost}(hs:SmallH h):fS h=some (M.hostZero h):=by
 unfold fS;rw[pU hs,Option.bind_some];cases hok:M.hostOk h with
 |false=>unfold M.hostZero;rw[hok];rfl
 |true=>
  have hk:=dJ.1 hok;have h3:=hk.three;have hall:=hk.all;have hss:=dA hall;rw[Bool.not_true,cond_false,aSa hs hk,Option.bind_some]
  have key:=qD (f:=M.zeroS h.Words) (gs:=h.Guests) (step:=lQ h) (λs=>JO.go s) (λk hk3=>by
   have hpl:=(dC (List.all_eq_true.1 hall _ (dB hk3))).2;simp only[lQ,decide_eq_true (show(k:Int)<(h.Guests.length:Int) by omega),cond_true]
   rw[aD ⟨by omega,by omega⟩,sQ hk3 (λs=>JO.go s) (λj hj=>by
    have hm:=sN hk3 hj;have hx:=List.all_eq_true.1 hss _ hm;have hr:=cD hx;have hgl:=sE (f:=M.zeroS h.Words) (k:=k) (j:=j) (gs:=h.Guests);have hpl2:=oY (f:=M.zeroS h.Words) (j:=j) hk3;have put:=uT (f:=M.zeroS h.Words) hk3 hj (s:=M.zeroS h.Words ((h.Guests.getD k default).Pages.getD j default)) rfl;simp only[oZ,Int.toNat_natCast];rw[decide_eq_true (p:=(j:Int)<_) (by omega),cond_true,aD ⟨by omega,by omega⟩,bJj hk.len hr,Option.bind_some];cases q:(!((h.Guests.getD k default).Pages.getD j default).Dirty&&(decide (((h.Guests.getD k default).Pages.getD j default).Frame=-1)||(M.page h.Words ((h.Guests.getD k default).Pages.getD j default).Frame.toNat).all (λw=>decide (w=0))))with
    |false=>simp only[cond_false,Option.bind_some,JO.run,pS];rw[aC (by omega) (by omega),mW hk3 hj (aPo q)];rfl
    |true=>rw[cond_true,aD ⟨by omega,by omega⟩,aD ⟨by omega,by omega⟩];simp only[Option.bind_some,JO.run,pS];rw[aC (by omega) (by omega),<-put,aRu q];rfl) (by
    simp only[oZ,Int.toNat_natCast];rw[decide_eq_false (by omega),cond_false,uY hk3 (Nat.le_refl _)])]
   simp only[Option.bind_some,LO.val,JO.run,vR];rw[aC (by omega) (by omega)];rfl) (by
   simp only[lQ];rw[decide_eq_false (by omega),cond_false])
  rw[key,uW hok];rfl
theorem bIw{h:DHost}{k j:Nat}{s4 s6:List DGuest×Int}(e1:s4.2=(k:Int))(e2:s6.2=(j:Int))(hw:h.Words.length=160){f:Int}(hf:((h.Guests.getD k default).Pages.getD j default).Frame=f)(h0:-1<=f)(h1:f<20):
 iter (dL h s4 s6) (decide (0<=f),0)=some (.ret (.go (decide (0<=f)&&(M.page h.Words f.toNat).all (λw=>decide (w=0))))):=by
 by_cases q:0<=f
 · have lp:(M.page h.Words f.toNat).length=8:=by unfold M.page;exact kJ (by omega)
   rw[decide_eq_true q,Bool.true_and];have st:∀(b:Bool) (i:Nat),i<8->dL h s4 s6 (b,(i:Int))=some (bif b then .next (decide ((M.page h.Words f.toNat).getD i default=0),(i:Int)+1)else .ret (.go b)):=λb i hi=>by have e8:w64 (w64 (f*8)+(i:Int))=f*8+i:=(by rw[aC (z:=f*8) (by omega) (by omega),aC (by omega) (by omega)]);simp only[dL,e1,e2,Int.toNat_natCast,hf,e8];rw[decide_eq_true (p:=(i:Int)<8) (by omega),cond_true];(cases b with|false=>rfl|true=>rw[cond_true,aD ⟨by omega,by omega⟩,aC (by omega) (by omega)];have:(M.page h.Words f.toNat).getD i default=h.Words.getD (f*8+(i:Int)).toNat default:=(by unfold M.page;rw[rZ hi];congr 1;omega);rw[this];rfl)
   have en:∀b:Bool,dL h s4 s6 (b,8)=some (.ret (.go b)):=λb=>by simp only[dL];rfl
   have key:∀n i:Nat,i+n=8->∀b:Bool,iter (dL h s4 s6) (b,(i:Int))=some (.ret (.go (b&&((M.page h.Words f.toNat).drop i).all (λw=>decide (w=0))))):=by
    intro n;induction n with
    |zero=>intro i hi b;have:i=8:=(by omega);subst this;rw[cB,List.drop_eq_nil_of_le (by omega)];have:=en b;rw[show((8:Nat):Int)=8 from rfl,this];simp
    |succ n ih=>intro i hi b;rw[cB,st b i (by omega)];(cases b with|false=>rfl|true=>rw[cond_true];have:=ih (i+1) (by omega) (decide ((M.page h.Words f.toNat).getD i default=0));rw[List.drop_eq_getElem_cons (by omega),List.all_cons,Bool.true_and,<-bO];exact this)
   have:=key 8 0 rfl true;rw[List.drop_zero,Bool.true_and]at this;exact this
 {rw[decide_eq_false q,Bool.false_and,cB];simp only[dL];rfl}
theorem aLk{h:DHost}(hs:SmallH h):iO h=some (M.hostZero h):=by
 unfold iO;rw[zK hs,Option.bind_some];cases hok:M.hostOk h with
 |false=>unfold M.hostZero;rw[hok];rfl
 |true=>
  have hk:=dJ.1 hok;have h3:=hk.three;have hall:=hk.all;have hss:=dA hall;rw[Bool.not_true,cond_false,aRs hs hall,Option.bind_some]
  have key:=qD (f:=M.zeroS h.Words) (gs:=h.Guests) (step:=lP h) (λs=>JO.go s) (λk hk3=>by
   have hpl:=(dC (List.all_eq_true.1 hall _ (dB hk3))).2;simp only[lP,decide_eq_true (show(k:Int)<3 by omega),cond_true]
   rw[sQ hk3 (λs=>JO.go s) (λj hj=>by
    have hm:=sN hk3 hj;have hx:=List.all_eq_true.1 hss _ hm;have hr:=cD hx;have hgl:=sE (f:=M.zeroS h.Words) (k:=k) (j:=j) (gs:=h.Guests);have hpl2:=oY (f:=M.zeroS h.Words) (j:=j) hk3;have put:=uT (f:=M.zeroS h.Words) hk3 hj (s:=M.zeroS h.Words ((h.Guests.getD k default).Pages.getD j default)) rfl;simp only[pN,Int.toNat_natCast];rw[aD ⟨by omega,by omega⟩,decide_eq_true (p:=(j:Int)<_) (by omega),cond_true,aD ⟨by omega,by omega⟩,aD ⟨by omega,by omega⟩,bIw (s4:=(_,(k:Int))) (s6:=(_,(j:Int))) rfl rfl hk.len rfl hr.1 hr.2];simp only[Option.bind_some,LO.val,JO.run,vS,Int.toNat_natCast];have keep:(decide (0<=((h.Guests.getD k default).Pages.getD j default).Frame)&&(M.page h.Words ((h.Guests.getD k default).Pages.getD j default).Frame.toNat).all (λw=>decide (w=0)))=false\/((h.Guests.getD k default).Pages.getD j default).Dirty=true->M.zeroS h.Words ((h.Guests.getD k default).Pages.getD j default)=(h.Guests.getD k default).Pages.getD j default:=λc=>by generalize(h.Guests.getD k default).Pages.getD j default=t at*;by_cases e:t.Frame=-1;{have:=aCr hx e;obtain⟨f,w,d⟩:=t;simp only at this e;obtain⟨rfl,rfl⟩:=this;subst e;rfl};{refine aPo ?_;rw[decide_eq_false e,Bool.false_or];rw[decide_eq_true (p:=0<=t.Frame) (by omega),Bool.true_and]at c;rcases c with c|c;{rw[c,Bool.and_false]};{rw[c];rfl}}
    cases q:(decide (0<=((h.Guests.getD k default).Pages.getD j default).Frame)&&(M.page h.Words ((h.Guests.getD k default).Pages.getD j default).Frame.toNat).all (λw=>decide (w=0)))with
    |false=>simp only[cond_false,Option.bind_some,JO.run,lF];rw[aC (by omega) (by omega),mW hk3 hj (keep (.inl q))];rfl
    |true=>
     rw[cond_true,aD ⟨by omega,by omega⟩,aD ⟨by omega,by omega⟩];cases d:((h.Guests.getD k default).Pages.getD j default).Dirty with
     |true=>simp only[Bool.not_true,cond_false,Option.bind_some,JO.run,lF];rw[aC (by omega) (by omega),mW hk3 hj (keep (.inr d))];rfl
     |false=>have zp:M.zeroS h.Words ((h.Guests.getD k default).Pages.getD j default)=⟨-1,false,false⟩:=aRu (by rw[Bool.and_eq_true]at q;rw[d,q.2,Bool.or_true];rfl);rw[Bool.not_false,cond_true,aD ⟨by omega,by omega⟩,aD ⟨by omega,by omega⟩];simp only[Option.bind_some,JO.run,lF];rw[aC (by omega) (by omega),<-put,zp];rfl) (by
    simp only[pN,Int.toNat_natCast];rw[aD ⟨by omega,by omega⟩,decide_eq_false (by omega),cond_false,uY hk3 (Nat.le_refl _)])]
   simp only[Option.bind_some,LO.val,JO.run,vW];rw[aC (by omega) (by omega)];rfl) (by
   simp only[lP];rw[decide_eq_false (by omega),cond_false])
  rw[key,uW hok];rfl
end Go.Proofs.Ytkjabgefacfpfaa
namespace Go.Proofs.Ytkjabgefacfpfaa
set_option linter.all false
theorem aQl{h:DHost}(hf:FitH h):hO h=some true:=by unfold hO;obtain⟨v,hv,hs⟩:=aPp hf (left:=1048576) (by omega) (by omega);rw[hv];simp only[Option.bind_some];rcases hs with h0|⟨h0,-,hs⟩;{rw[bMf h0];rfl};{have hz:=aIw hs;have hp:=aAm hs (k:=1) (by omega);have hp2:=aAm hz (k:=1) (by omega);rw[decide_eq_false (by omega),cond_false];simp only[aQa hs,aMh hs,aLk hs,Option.bind_some,aAi hs,aAi hz,decide_true,Bool.not_true,cond_false,vG hs (k:=1) (by omega) (by omega),vG hz (k:=1) (by omega) (by omega),aGi,aJi hz (k:=1) (by omega) (by omega)];rw[aD True.intro,aD True.intro,decide_eq_false (by omega),cond_false,aD True.intro,aD True.intro,decide_eq_false (by omega)];rfl}
end Go.Proofs.Ytkjabgefacfpfaa
namespace Go.Proofs.Ytkjabgefacfpfaa
set_option linter.all false
theorem jT{xs ys:List Int}(h:xs.length<=9223372036854775806):cZ xs ys=some (decide (xs=ys)):=by
 unfold cZ;by_cases hl:xs.length=ys.length
 · have key:∀k:Int,(0<=k/\k<=(xs.length:Int))->iter (fK xs ys) k=some (.ret (bif decide (xs.drop k.toNat=ys.drop k.toNat)then .go ()else .out false)):=by
    refine uP _ (λk=>xs.length-k.toNat) _ ?_
    rintro k ⟨h0,h1⟩
    by_cases hk:k<xs.length
    · have e1:xs.drop k.toNat=xs.getD k.toNat default::xs.drop (k+1).toNat:=by
       rw[bO (by omega),show(k+1).toNat=k.toNat+1 by omega];exact List.drop_eq_getElem_cons (by omega)
      have e2:ys.drop k.toNat=ys.getD k.toNat default::ys.drop (k+1).toNat:=(by rw[bO (by omega),show(k+1).toNat=k.toNat+1 by omega];exact List.drop_eq_getElem_cons (by omega));have es:fK xs ys k=cond (!decide (xs.getD k.toNat default=ys.getD k.toNat default)) (some (.ret (.out false))) (some (.next (k+1))):=(by unfold fK;rw[decide_eq_true hk,cond_true,aD ⟨h0,hk⟩,aD ⟨h0,by omega⟩,aC (by omega) (by omega)]);by_cases he:xs.getD k.toNat default=ys.getD k.toNat default;{refine .inl ⟨k+1,by rw[es,decide_eq_true he];rfl,⟨by omega,by omega⟩,by omega,?_⟩;rw[e1,e2,he];simp};{refine .inr ⟨λs'=>by rw[es,decide_eq_false he];simp,?_⟩;rw[es,decide_eq_false he,e1,e2];have:decide (xs.getD k.toNat default::xs.drop (k+1).toNat=ys.getD k.toNat default::ys.drop (k+1).toNat)=false:=decide_eq_false λe=>he (List.cons.inj e).1;rw[this];rfl}
    {have hk2:k=xs.length:=(by omega);subst hk2;refine .inr ⟨?_,?_⟩;{intro s';simp[fK]};{simp[fK,hl]}}
   rw[key 0 ⟨by omega,by omega⟩];have:decide ((xs.length:Int)=(ys.length:Int))=true:=(by simp[hl]);rw[this];by_cases e:xs=ys;{subst e;simp[LO.val,JO.run,vV]};{simp[e,LO.val,JO.run]}
 {have:decide ((xs.length:Int)=(ys.length:Int))=false:=(by simp;omega);rw[this];have e:xs≠ys:=λe=>hl (by rw[e]);simp[e]}
end Go.Proofs.Ytkjabgefacfpfaa
namespace Go.Proofs.Ytkjabgefacfpfaa
set_option linter.all false
theorem aEw{a:DCore}(h:a.Regs.length<=9223372036854775806):lI a a=some true:=by unfold lI;rw[jT h];simp
theorem aQj{a:DBare}(h:SmallB a):oR a a=some true:=by have:=h.c.regs;have:=h.mem;have:=h.i;have:=h.o;unfold oR;rw[aEw (by omega),jT (by omega),jT (by omega),jT (by omega)];simp
end Go.Proofs.Ytkjabgefacfpfaa
namespace Go.Proofs.Ytkjabgefacfpfaa
set_option linter.all false
theorem aOj{g:DGuest}(h:SmallG g):kA g g=some true:=by
 have:=h.c.regs;have:=h.pages;have:=h.i;have:=h.o;unfold kA;rw[aEw (by omega),jT (by omega),jT (by omega)];simp only[beq_self_eq_true,Bool.not_true,cond_false,Option.bind_some,decide_true]
 have key:=iB (n:=g.Pages.length) (step:=kR g g) (λi=>(i:Int)) (λ_=>true) (JO.go ()) (.out false) (λi hi _=>by
  simp only[kR,Int.toNat_natCast];rw[decide_eq_true (p:=(i:Int)<_) (by omega),cond_true,aD ⟨by omega,by omega⟩,aD ⟨by omega,by omega⟩,aC (by omega) (by omega)];simp only[beq_self_eq_true,decide_true,Bool.and_self,Bool.not_true,cond_false,cond_true];rfl) (λ_=>by
  simp only[kR];rw[decide_eq_false (by omega),cond_false])
 have e:(List.range g.Pages.length).all (λ_=>true)=true:=(by simp);rw[e]at key;rw[show(0:Int)=((0:Nat):Int)from rfl,key];rfl
theorem wT{h:DHost}(hs:SmallH h):iN h h=some true:=by
 have:=hs.words;have:=hs.guests;unfold iN;rw[jT (by omega)];simp only[Bool.not_true,cond_false,Option.bind_some,decide_true]
 have key:=iB (n:=h.Guests.length) (step:=lG h h) (λi=>(i:Int)) (λ_=>true) (JO.go ()) (.out false) (λi hi _=>by
  simp only[lG,Int.toNat_natCast];rw[decide_eq_true (p:=(i:Int)<_) (by omega),cond_true,aD ⟨by omega,by omega⟩,aD ⟨by omega,by omega⟩];show Option.bind (kA (h.Guests.getD i default) (h.Guests.getD i default)) _=_;rw[aOj (hs.all _ (dB hi)),Option.bind_some,aC (by omega) (by omega)];rfl) (λ_=>by
  simp only[lG];rw[decide_eq_false (by omega),cond_false])
 have e:(List.range h.Guests.length).all (λ_=>true)=true:=(by simp);rw[e]at key;rw[show(0:Int)=((0:Nat):Int)from rfl,key];rfl
end Go.Proofs.Ytkjabgefacfpfaa
namespace Go.Proofs.Ytkjabgefacfpfaa
set_option linter.all false
theorem aMj{a b:DHost}{but:Int}(ha:SmallH a)(hb:SmallH b)(hv:∀k:Nat,k<3->(k:Int)≠but->M.hostView b (k:Int)=M.hostView a (k:Int)):kI a b but=some true:=by
 unfold kI
 have key:=iB (n:=3) (step:=kS a b but) (λk=>(k:Int)) (λ_=>true) (JO.go ()) (.out false) (λk hk _=>by
  simp only[kS];rw[decide_eq_true (p:=(k:Int)<3) (by omega),cond_true,aNi ha,Option.bind_some,aNi hb,Option.bind_some];by_cases e:(k:Int)=but;{rw[decide_eq_true e];simp only[Bool.not_true,cond_false,Option.bind_some,JO.run,oE,cond_true];rw[aC (by omega) (by omega)];rfl}
  · rw[decide_eq_false e,hv k hk e,aQj (bAp ha)];simp only[beq_self_eq_true,Bool.not_true,Bool.not_false,cond_false,Option.bind_some,JO.run,oE,cond_true];rw[aC (by omega) (by omega)];rfl) (λ_=>by
  simp only[kS];rfl)
 rw[show(List.range 3).all (λ_=>true)=true by simp,cond_true]at key;rw[show(0:Int)=((0:Nat):Int)from rfl,key];rfl
end Go.Proofs.Ytkjabgefacfpfaa
namespace Go.Proofs.Ytkjabgefacfpfaa
set_option linter.all false
namespace M
def zeros(xs:List Int):Bool:=(List.range 8).all λk=>decide (xs.getD k default=0)
def used(mem:List Int):Nat->Nat
 |0=>0
 |p+1=>used mem p+(bif zeros (page mem p)then 0 else 1)
def slotFor(mem free:List Int)(p:Nat):DSlot:=bif zeros (page mem p)then⟨-1,false,false⟩else⟨free.getD (used mem p) default,true,false⟩
def slotsFor(mem free:List Int)(n:Nat):List DSlot:=(List.range n).map (slotFor mem free)
def wordsFor(mem free:List Int)(ws:List Int):Nat->List Int
 |0=>ws
 |p+1=>bif zeros (page mem p)then wordsFor mem free ws p else over (wordsFor mem free ws p) ((free.getD (used mem p) default).toNat*8) 8 (page mem p)
noncomputable def gone (gs:List DGuest):Int:=bif (gs.getD 0 default).Live then(bif (gs.getD 1 default).Live then(bif (gs.getD 2 default).Live then-1 else 2)else 1)else 0
noncomputable def booted (h:DHost)(b:DBare):DHost:=⟨wordsFor b.Mem (free (slots h.Guests)) h.Words 8,h.Guests.set (gone h.Guests).toNat ⟨true,b.C,slotsFor b.Mem (free (slots h.Guests)) 8,b.In,b.Out⟩⟩
noncomputable def hostBoot (h:DHost)(b:DBare):DHost×Int×Bool:=bif hostOk h&&bareOk b&&(!decide (gone h.Guests=-1)&&decide (used b.Mem 8<=(free (slots h.Guests)).length))then(booted h b,gone h.Guests,true)else(⟨[],[]⟩,-1,false)
end M
theorem bEd{mem:List Int}{p q:Nat}(h:p<=q):M.used mem p<=M.used mem q:=by
 induction h with
 |refl=>exact Nat.le_refl _
 |step _ ih=>exact Nat.le_trans ih (by rw[M.used];omega)
theorem aNf{mem:List Int}{L n:Nat}:((List.range n).all λp=>M.zeros (M.page mem p)||decide (M.used mem p<L))=decide (M.used mem n<=L):=by
 apply dbe;simp only[List.all_eq_true,List.mem_range,Bool.or_eq_true,decide_eq_true_eq];constructor
 · intro h
   induction n with
   |zero=>simp[M.used]
   |succ n ih=>have h1:=ih λp hp=>h p (by omega);rcases h n (by omega)with h2|h2;{rw[M.used,h2];exact h1};{rw[M.used];cases M.zeros (M.page mem n)<;>simp<;>omega}
 {intro h p hp;(cases hz:M.zeros (M.page mem p)with|true=>exact .inl rfl|false=>have:=bEd (mem:=mem) (show p+1<=n by omega);rw[M.used,hz]at this;simp only[cond_false]at this;exact .inr (by omega))}
theorem aMm{ss:List DSlot}{i:Nat}(hi:i<(M.free ss).length):0<=(M.free ss).getD i default/\(M.free ss).getD i default<20:=by have hm:=dB hi;rw[uM]at hm;obtain⟨j,hj,e⟩:=List.mem_map.1 hm;have:=(List.mem_filter.1 hj).1;rw[List.mem_range]at this;rw[uM,<-e];omega
theorem bHs{xs:List Int}{p:Nat}(h:p*8+8<=xs.length):(M.page xs p).length=8:=kJ h
theorem yL{mem ws:List Int}{ss:List DSlot}(hw:ws.length=160):∀{p:Nat},p<=8->M.used mem p<=(M.free ss).length->(M.wordsFor mem (M.free ss) ws p).length=160
 |0,_,_=>hw
 |p+1,h8,hu=>by have eu:M.used mem (p+1)=M.used mem p+(bif M.zeros (M.page mem p)then 0 else 1):=rfl;have ih:=yL (mem:=mem) (ss:=ss) hw (p:=p) (by omega) (by omega);unfold M.wordsFor;(cases hz:M.zeros (M.page mem p)with|true=>rw[cond_true];exact ih|false=>rw[hz]at eu;simp only[cond_false]at eu;have:=aMm (ss:=ss) (i:=M.used mem p) (by omega);rw[cond_false,aPt (by omega),ih])
theorem bAa(gs:List DGuest):-1<=M.gone gs/\M.gone gs<=2:=by unfold M.gone;cases(gs.getD 0 default).Live<;>cases(gs.getD 1 default).Live<;>cases(gs.getD 2 default).Live<;>simp
theorem bEr{b:DBare}(h:M.bareOk b=true):b.Mem.length=64:=by unfold M.bareOk at h;simp only[Bool.and_eq_true]at h;exact bDf h.1.1.2
end Go.Proofs.Ytkjabgefacfpfaa
