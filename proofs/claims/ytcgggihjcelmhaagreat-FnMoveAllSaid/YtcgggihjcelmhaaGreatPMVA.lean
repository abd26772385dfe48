/- The plain functions: what they answer. -/
import Derived.Test.YtcgggihjcelmhaaGreatPMB
import Derived.Test.YtcgggihjcelmhaaGreatPJA
import Derived.Test.YtcgggihjcelmhaaGreatWFMA1
namespace Go.Proofs.YtcgggihjcelmhaaGreat
open Option renaming bind → x4
open List renaming getD_eq_getElem?_getD → x6, replicate → j0, all_eq_true → w5, length_cons → y7, range → u7, mem_range → f8, length_replicate → l6, length_nil → l7, length_map → t8
open Nat renaming le_refl → k9
open Bool renaming true_and → f7, false_or → qQU
set_option linter.all false
section
variable {a b : DHost} {g : Int}
structure Begun (a b : DHost) (g : Int) (m : DMove) : Prop where
 ok:∃x y,MOk m x y
 eg:m.G=g
 left:m.Left=j0 8 true
 here:∀k:Nat,k<3->M.hostView m.From (k:Int)=M.hostView a (k:Int)
 there:∀k:Nat,k<3->(k:Int)≠m.N->M.hostView m.To (k:Int)=M.hostView b (k:Int)
 was:M.there a g=true
theorem bFh{x:DGuest}{f:Int}(hf:f≠-1):M.many (M.arrival x).Pages f=0:=by unfold M.many;rw[List.countP_eq_zero];intro s hs;rw[(List.mem_replicate.1 (show s∈j0 8 M.nowhere from hs)).2,decide_eq_true_eq];exact λe=>hf e.symm
theorem aPt(ha:SmallH a)(hb:SmallH b)(h2:(M.moveBegin a b g).2=true):Begun a b g (M.moveBegin a b g).1:=by unfold M.moveBegin at h2 ⊢;(cases hc:(M.there a g&&M.hostOk b&&decide (M.gone b.Guests≠-1))with|false=>rw[hc]at h2;cases h2|true=>simp only[bA,decide_eq_true_eq]at hc;obtain⟨⟨th,ok⟩,hn⟩:=hc;rw[cTq];have l:=aU ha th;obtain⟨n,n3,en,hd⟩:=bOy hn;generalize hx:a.Guests.getD g.toNat default=x at l;have kb:=cV.1 ok;have b3:=kb.three;have ga:M.guestOk (M.arrival x)=true:=(aBn (x:=M.arrival x) rfl).2 ⟨l.core,by show(j0 8 M.nowhere).length=8;rw[l6],by show(j0 8 M.nowhere).all M.slotOk=true;decide,l.inn,l.out⟩;have ok2:HOk ⟨b.Words,b.Guests.set n (M.arrival x)⟩:=aXf kb n3 ga (λs hs hw=>by rw[(List.mem_replicate.1 (show s∈j0 8 M.nowhere from hs)).2]at hw;cases hw) (λf hf=>by rw[bFh hf];exact Nat.zero_le _);have sm2:SmallH ⟨b.Words,b.Guests.set n (M.arrival x)⟩:=aDv hb ⟨l.small.c,by show(j0 8 M.nowhere).length<=_;rw[l6];omega,l.small.i,l.small.o⟩;have l2:Live ⟨b.Words,b.Guests.set n (M.arrival x)⟩ (n:Int) (M.arrival x):=(by have:=aQc (g:=(n:Int)) (h:=b) (y:=M.arrival x) (by rw[iT];exact sm2) (by rw[iT];exact ok2) b3 (by omega) (by omega) rfl;rwa[iT]at this);rw[en,iT];refine⟨⟨M.mapG M.clean x,M.arrival x,aAg ha l,sm2,aDf ha l,l2,by show(j0 8 true).length=8;rw[l6],λp hp=>?_,λp hp hl=>?_⟩,rfl,rfl,λk hk=>aMd ha l hk,λk hk hn=>aGt kb ok2 hk (λe=>hn (by rw[e])),th⟩;{show((x.Pages.map M.clean).getD p default).Dirty=false;rw[aRo (by have:=l.pages;omega)];rfl};{have hl:(j0 8 true).getD p default=false:=hl;rw[aQ (by rw[l6];exact hp),List.getElem_replicate]at hl;cases hl})
theorem aOz(ha:SmallH a)(hb:SmallH b):SmallM (M.moveBegin a b g).1:=by
 (cases h2:(M.moveBegin a b g).2 with|true=>obtain⟨_,_,k⟩:=(aPt ha hb h2).ok;exact k.small|false=>have:(M.moveBegin a b g).1=M.zeroM:=(by unfold M.moveBegin at h2 ⊢;(cases hc:(M.there a g&&M.hostOk b&&decide (M.gone b.Guests≠-1))with|false=>rfl|true=>rw[hc]at h2;cases h2));rw[this];exact aPi)
end
namespace M
def send(p:Nat):DAct:=⟨2,(p:Int)⟩
noncomputable def act (s:DMove×Int)(a:DAct):DMove×Int:=bif (moveDo s.1 a).2 then((moveDo s.1 a).1,bif decide (a.Kind=1)then s.2+1 else s.2)else s
def sends(ls:List Bool):List DAct:=((u7 ls.length).filter λp=>ls.getD p default).map send
noncomputable def sentAll (m:DMove):DMove:=((sends m.Left).foldl act (m,0)).1
noncomputable def moveAll (a b:DHost)(g:Int)(acts:List DAct):DHost×DHost×Int×Int×Bool:=bif (moveBegin a b g).2&&decide (acts.length<=100)then
 (bif (moveEnd (sentAll (acts.foldl act ((moveBegin a b g).1,0)).1)).2.2 then
  ((moveEnd (sentAll (acts.foldl act ((moveBegin a b g).1,0)).1)).1,(moveEnd (sentAll (acts.foldl act ((moveBegin a b g).1,0)).1)).2.1,(sentAll (acts.foldl act ((moveBegin a b g).1,0)).1).N,(acts.foldl act ((moveBegin a b g).1,0)).2,true)
 else(zeroH,zeroH,-1,0,false))
 else(zeroH,zeroH,-1,0,false)
end M
theorem aKe{s:DMove×Int}(hs:SmallM s.1){a:DAct}:SmallM (M.act s a).1:=by unfold M.act;(cases(M.moveDo s.1 a).2 with|true=>exact bTz hs|false=>exact hs)
theorem bHp{s:DMove×Int}{a:DAct}:(M.act s a).2=s.2\/(M.act s a).2=s.2+1:=by unfold M.act;(cases(M.moveDo s.1 a).2 with|true=>rw[cTq];(cases decide (a.Kind=1)with|true=>exact .inr rfl|false=>exact .inl rfl)|false=>exact .inl rfl)
theorem aBm:∀{ts:List DAct} {s:DMove×Int},SmallM s.1->SmallM (ts.foldl M.act s).1
 |[],_,h=>h
 |_::ts,_,h=>aBm (ts:=ts) (aKe h)
structure Mv (a b : DHost) (g n : Int) (s : DMove × Int) (c : Nat) : Prop where
 ok:M.moveOk s.1=true
 small:SmallM s.1
 eg:s.1.G=g
 en:s.1.N=n
 num:s.2=(c:Int)
 view:M.hostView s.1.From g=(M.steps c (M.hostView a g).1,true)
 here:∀k:Nat,k<3->(k:Int)≠g->M.hostView s.1.From (k:Int)=M.hostView a (k:Int)
 there:∀k:Nat,k<3->(k:Int)≠n->M.hostView s.1.To (k:Int)=M.hostView b (k:Int)
section
variable {a b : DHost} {g n : Int} {s : DMove × Int} {c : Nat}
theorem Mv.act(v:Mv a b g n s c)(t:DAct):∃c',Mv a b g n (M.act s t) c'/\c<=c'/\c'<=c+1:=by unfold M.act;(cases h2:(M.moveDo s.1 t).2 with|false=>exact⟨c,v,k9 _,Nat.le_succ _⟩|true=>obtain⟨_,d⟩:=bBn v.small h2;obtain⟨x,y,k⟩:=d.ok;have vg:=v.eg;have vn:=v.en;have vw:=d.view;rw[vg,v.view]at vw;have vh:∀k:Nat,k<3->(k:Int)≠g->M.hostView (M.moveDo s.1 t).1.From (k:Int)=M.hostView a (k:Int):=λk hk hn=>(d.here k hk (by rw[vg];exact hn)).trans (v.here k hk hn);have vt:∀k:Nat,k<3->(k:Int)≠n->M.hostView (M.moveDo s.1 t).1.To (k:Int)=M.hostView b (k:Int):=λk hk hn=>(d.there k hk (by rw[vn];exact hn)).trans (v.there k hk hn);rw[cTq];(cases h1:decide (t.Kind=1)with|false=>rw[h1,cFq]at vw;exact⟨c,⟨k.ok,k.small,d.g.trans vg,d.n.trans vn,v.num,vw,vh,vt⟩,k9 _,Nat.le_succ _⟩|true=>rw[h1,cTq]at vw;exact⟨c+1,⟨k.ok,k.small,d.g.trans vg,d.n.trans vn,by show s.2+1=_;rw[v.num];omega,vw,vh,vt⟩,Nat.le_succ _,k9 _⟩))
theorem Mv.acts(v:Mv a b g n s c):∀(ts:List DAct),∃c',Mv a b g n (ts.foldl M.act s) c'/\c'<=c+ts.length:=by
 intro ts;induction ts generalizing s c with
 |nil=>exact⟨c,v,k9 _⟩
 |cons t ts ih=>obtain⟨c1,v1,-,b1⟩:=v.act t;obtain⟨c2,v2,b2⟩:=ih v1;exact⟨c2,v2,by rw[y7];omega⟩
end
namespace M
noncomputable def tr (m:DMove)(p:Nat):DMove:=bif (moveDo m (send p)).2 then(moveDo m (send p)).1 else m
noncomputable def im (ls:List Bool)(m:DMove)(k:Nat):DMove:=(u7 k).foldl (λm p=>bif ls.getD p default then tr m p else m) m
noncomputable def sp (m:DMove)(k:Nat):DMove:=(u7 k).foldl (λm p=>bif m.Left.getD p default then(moveDo m (send p)).1 else m) m
noncomputable def okAt (m:DMove)(p:Nat):Bool:=!m.Left.getD p default||(moveDo m (send p)).2
end M
theorem bRt{m:DMove}{c:Int}{p:Nat}:M.act (m,c) (M.send p)=(M.tr m p,c):=by unfold M.act M.tr;cases(M.moveDo m (M.send p)).2<;>rfl
theorem bXw{ls:List Bool}{m:DMove}{k:Nat}:M.im ls m (k+1)=bif ls.getD k default then M.tr (M.im ls m k) k else M.im ls m k:=by unfold M.im;rw[List.range_succ,List.foldl_append];rfl
theorem aNd{m:DMove}{k:Nat}:M.sp m (k+1)=bif (M.sp m k).Left.getD k default then(M.moveDo (M.sp m k) (M.send k)).1 else M.sp m k:=by unfold M.sp;rw[List.range_succ,List.foldl_append];rfl
theorem aQr{ls:List Bool}{m:DMove}{c:Int}:(M.sends ls).foldl M.act (m,c)=(M.im ls m ls.length,c):=by
 unfold M.sends M.im;rw[List.foldl_map,List.foldl_filter];generalize u7 ls.length=ps;induction ps generalizing m with
 |nil=>rfl
 |cons p ps ih=>rw[List.foldl_cons,List.foldl_cons];(cases hp:ls.getD p default with|true=>rw[if_pos rfl,bRt,cTq];exact ih|false=>rw[if_neg (by simp),cFq];exact ih)
section
variable {m : DMove}
theorem aYq(hs:SmallM m){p:Nat}(hp:p<8)(h2:(M.moveDo m (M.send p)).2=true):(M.moveDo m (M.send p)).1.Left=m.Left.set p false/\M.moveOk (M.moveDo m (M.send p)).1=true/\SmallM (M.moveDo m (M.send p)).1:=by obtain⟨ho,d⟩:=bBn hs h2;obtain⟨x,y,k⟩:=d.ok;refine⟨?_,k.ok,k.small⟩;have hr:M.inR 0 7 (M.send p).Page=true:=M.inR_iff.2 ⟨by show(0:Int)<=(p:Int);omega,by show(p:Int)<=7;omega⟩;have e:M.moveDo m (M.send p)=M.moveSend m (p:Int):=(by unfold M.moveDo;rw[ho,hr];rfl);rw[e]at h2 ⊢;have:=(bBa (wG hs ho) (by omega) (by omega) h2).2;rwa[iT]at this
theorem cFm(hs:SmallM m)(ho:M.moveOk m=true){p:Nat}(hp:p<8):M.moveOk (M.tr m p)=true/\SmallM (M.tr m p)/\∀q,q≠p->(M.tr m p).Left.getD q default=m.Left.getD q default:=by unfold M.tr;(cases h2:(M.moveDo m (M.send p)).2 with|false=>exact⟨ho,hs,λ_ _=>rfl⟩|true=>obtain⟨e1,e2,e3⟩:=aYq hs hp h2;refine⟨e2,e3,λq hq=>?_⟩;rw[cTq,e1,x6,List.getElem?_set,if_neg (λc=>hq c.symm),<-x6])
theorem bWs(hs:SmallM m)(ho:M.moveOk m=true):∀k,k<=8->M.moveOk (M.im m.Left m k)=true/\SmallM (M.im m.Left m k)/\(∀q,k<=q->(M.im m.Left m k).Left.getD q default=m.Left.getD q default)/\
 (((∀j,j<k->M.okAt (M.sp m j) j=true)/\M.im m.Left m k=M.sp m k)\/((∃j,j<k/\M.okAt (M.sp m j) j=false)/\∃j,j<k/\(M.im m.Left m k).Left.getD j default=true))
 |0,_=>⟨ho,hs,λ_ _=>rfl,.inl ⟨λj hj=>absurd hj (Nat.not_lt_zero j),rfl⟩⟩
 |k+1,hk=>by obtain⟨i1,i2,i3,i4⟩:=bWs hs ho k (by omega);rw[bXw];(cases hl:m.Left.getD k default with|false=>rw[cFq];refine⟨i1,i2,λq hq=>i3 q (by omega),?_⟩;rcases i4 with⟨c1,c2⟩|⟨⟨j,j1,j2⟩,j',j3,j4⟩;{have el:(M.sp m k).Left.getD k default=false:=(by rw[<-c2,i3 k (k9 _),hl]);refine .inl ⟨λj hj=>?_,by rw[aNd,el,cFq,c2]⟩;by_cases e:j=k;{rw[e];unfold M.okAt;rw[el];rfl};{exact c1 j (by omega)}};{exact .inr ⟨⟨j,by omega,j2⟩,j',by omega,j4⟩}|true=>rw[cTq];obtain⟨t1,t2,t3⟩:=cFm i2 i1 (p:=k) (by omega);refine⟨t1,t2,λq hq=>(t3 q (by omega)).trans (i3 q (by omega)),?_⟩;rcases i4 with⟨c1,c2⟩|⟨⟨j,j1,j2⟩,j',j3,j4⟩;{have el:(M.sp m k).Left.getD k default=true:=(by rw[<-c2,i3 k (k9 _),hl]);(cases h2:(M.moveDo (M.sp m k) (M.send k)).2 with|true=>refine .inl ⟨λj hj=>?_,by rw[aNd,el,cTq,c2];unfold M.tr;rw[h2];rfl⟩;by_cases e:j=k;{rw[e];unfold M.okAt;rw[el,h2];rfl};{exact c1 j (by omega)}|false=>refine .inr ⟨⟨k,by omega,by unfold M.okAt;rw[el,h2];rfl⟩,k,by omega,?_⟩;rw[c2];unfold M.tr;rw[h2,cFq];exact el)};{exact .inr ⟨⟨j,by omega,j2⟩,j',by omega,(t3 j' (by omega)).trans j4⟩})
theorem bMp(hs:SmallM m)(ho:M.moveOk m=true):(((u7 8).all λj=>M.okAt (M.sp m j) j)=true/\M.sentAll m=M.sp m 8)\/(((u7 8).all λj=>M.okAt (M.sp m j) j)=false/\(M.moveEnd (M.sentAll m)).2.2=false):=by have hl:=(wG hs ho).len;have e:M.sentAll m=M.im m.Left m 8:=(by unfold M.sentAll;rw[aQr,hl]);obtain⟨-,-,-,i4⟩:=bWs hs ho 8 (k9 _);rw[e];rcases i4 with⟨c1,c2⟩|⟨⟨j,j1,j2⟩,j',j3,j4⟩;{exact .inl ⟨w5.2 λj hj=>c1 j (f8.1 hj),c2⟩};{right;refine⟨?_,?_⟩;{rw[List.all_eq_false];exact⟨j,f8.2 j1,by rw[j2];simp⟩};{unfold M.moveEnd;have:((M.im m.Left m 8).Left.all λb=>!b)=false:=(by rw[List.all_eq_false];have hj:j'<(M.im m.Left m 8).Left.length:=(by apply Classical.byContradiction;intro hn;rw[x6,List.getElem?_eq_none (by omega)]at j4;cases j4);exact⟨true,by rw[<-j4];exact bN hj,by simp⟩);rw[this,Bool.and_false];rfl}}
end
theorem Mv.sent{a b:DHost}{g n:Int}{s:DMove×Int}{c:Nat}(v:Mv a b g n s c):Mv a b g n (M.sentAll s.1,s.2) c:=by have e:(M.sends s.1.Left).foldl M.act (s.1,s.2)=(M.sentAll s.1,s.2):=(by unfold M.sentAll;rw[aQr,aQr]);obtain⟨c',v',_⟩:=Mv.acts (s:=(s.1,s.2)) v (M.sends s.1.Left);rw[e]at v';have h1:=v'.num;have h2:=v.num;have:c'=c:=(by simp only at h1;omega);rwa[this]at v'
structure Moved (a b : DHost) (g : Int) (r : DHost × DHost × Int × Int × Bool) (c : Nat) : Prop where
 sa:SmallH r.1
 sb:SmallH r.2.1
 num:r.2.2.2.1=(c:Int)
 most:c<=100
 was:M.there a g=true
 view:M.hostView r.2.1 r.2.2.1=(M.steps c (M.hostView a g).1,true)
 here:∀k:Nat,k<3->(k:Int)≠g->M.hostView r.1 (k:Int)=M.hostView a (k:Int)
 there:∀k:Nat,k<3->(k:Int)≠r.2.2.1->M.hostView r.2.1 (k:Int)=M.hostView b (k:Int)
section
variable {a b : DHost} {g : Int} {acts : List DAct}
theorem bCa(ha:SmallH a)(hb:SmallH b)(h2:(M.moveBegin a b g).2=true):Mv a b g (M.moveBegin a b g).1.N ((M.moveBegin a b g).1,0) 0:=by have B:=aPt ha hb h2;obtain⟨x,y,k⟩:=B.ok;have l:=aU ha B.was;have g0:=l.lo;have g1:=l.hi;have hv:=B.here g.toNat (by omega);rw[show((g.toNat:Nat):Int)=g by omega]at hv;exact⟨k.ok,k.small,B.eg,rfl,rfl,by show M.hostView (M.moveBegin a b g).1.From g=_;rw[hv,oY l];rfl,λk hk _=>B.here k hk,B.there⟩
theorem bQf(ha:SmallH a)(hb:SmallH b)(h2:(M.moveAll a b g acts).2.2.2.2=true):∃c,Moved a b g (M.moveAll a b g acts) c:=by unfold M.moveAll at h2 ⊢;(cases hc:((M.moveBegin a b g).2&&decide (acts.length<=100))with|false=>rw[hc]at h2;cases h2|true=>rw[hc,cTq]at h2;rw[cTq];rw[bA,decide_eq_true_eq]at hc;(cases he:(M.moveEnd (M.sentAll (acts.foldl M.act ((M.moveBegin a b g).1,0)).1)).2.2 with|false=>rw[he]at h2;cases h2|true=>rw[cTq];obtain⟨c,v,hcm⟩:=(bCa ha hb hc.1).acts acts;have v2:=v.sent;obtain⟨-,-,E⟩:=cDy v2.small he;have eg:=v2.eg;have en:=v2.en;refine⟨c,E.sa,E.sb,v.num,by omega,(aPt ha hb hc.1).was,?_,λk hk hn=>?_,λk hk hn=>?_⟩;{show M.hostView (M.moveEnd _).2.1 (M.sentAll _).N=_;rw[E.view];simp only at eg;rw[eg];exact v2.view};{exact(E.here k hk (by simp only at eg;rw[eg];exact hn)).trans (v2.here k hk hn)};{have hn:(k:Int)≠(M.sentAll (acts.foldl M.act ((M.moveBegin a b g).1,0)).1).N:=hn;simp only at en;exact(E.there k hk hn).trans (v2.there k hk (by rw[<-en];exact hn))}))
theorem bQw(ha:SmallH a)(hb:SmallH b):SmallH (M.moveAll a b g acts).1/\SmallH (M.moveAll a b g acts).2.1:=by
 (cases h2:(M.moveAll a b g acts).2.2.2.2 with|true=>obtain⟨c,v⟩:=bQf ha hb h2;exact⟨v.sa,v.sb⟩|false=>have:(M.moveAll a b g acts).1=M.zeroH/\(M.moveAll a b g acts).2.1=M.zeroH:=(by unfold M.moveAll at h2 ⊢;(cases hc:((M.moveBegin a b g).2&&decide (acts.length<=100))with|false=>exact⟨rfl,rfl⟩|true=>rw[hc,cTq]at h2;rw[cTq];(cases he:(M.moveEnd (M.sentAll (acts.foldl M.act ((M.moveBegin a b g).1,0)).1)).2.2 with|false=>exact⟨rfl,rfl⟩|true=>rw[he]at h2;cases h2)));rw[this.1,this.2];exact⟨aUq,aUq⟩)
end
theorem bGc{a b:List Int}(h:a.length=b.length)(h8:a.length<=1048576):pH a b=some (decide (a=b)):=by
 unfold pH
 have key:=aYh (n:=a.length) (step:=mI a b) (λk=>k) (λi=>decide (a.getD i default=b.getD i default)) (.go ()) (.out false) (λi hi=>by
  simp only[mI,iT];rw[dT (p:=(i:Int)<_) (by omega),cTq,aB ⟨by omega,by omega⟩,aB ⟨by omega,by omega⟩,aD (by omega) (by omega)];cases decide (a.getD i default=b.getD i default)<;>rfl) (by
  simp only[mI];rw[dF (by omega),cFq])
 rw[key]
 have e:(u7 a.length).all (λi=>decide (a.getD i default=b.getD i default))=decide (a=b):=by
  apply dbe;rw[w5,decide_eq_true_eq];constructor;{intro hh;exact fB rfl h.symm λi hi=>of_decide_eq_true (hh i (f8.2 hi))}
  · rintro rfl i _;exact dT rfl
 rw[e];cases decide (a=b)<;>rfl
section
variable {h : DHost} {g : Int} {x : DGuest}
theorem wN(l:Live h g x){p:Nat}:M.wordsAt h g p=M.pageWords h.Words (x.Pages.getD p default):=by unfold M.wordsAt M.slotAt;rw[l.at_]
theorem nP(l:Live h g x){p:Nat}(hp:p<8):(M.wordsAt h g p).length=8:=by rw[wN l];exact kJ l.ok.len (aX l hp)
theorem bFu(l:Live h g x){p a:Nat}(hp:p<8)(ha:a<8):(M.wordsAt h g p).getD a default=M.word h.Words x.Pages (p*8+a):=by rw[wN l,kH (aX l hp) ha,aFk ha]
theorem bDa(l:Live h g x){p:Nat}(hp:p<8):lP h g (p:Int)=some (M.wordsAt h g p):=by
 have hw:=nP l hp;unfold lP
 have key:=cH (n:=8) (step:=kQ h g (p:Int)) (λk=>((M.wordsAt h g p).take k,(k:Int))) (λ_=>true) (JO.go (M.wordsAt h g p)) (JO.go (M.wordsAt h g p)) (λk hk _=>by
  simp only[kQ];rw[dT (p:=(k:Int)<8) (by omega),cTq,aD (z:=(p:Int)*8) (by omega) (by omega),aD (z:=(p:Int)*8+(k:Int)) (by omega) (by omega),show(p:Int)*8+(k:Int)=((p*8+k:Nat):Int) by omega,aZy l (by omega),oB];have e:(M.wordsAt h g p).take (k+1)=(M.wordsAt h g p).take k++[M.word h.Words x.Pages (p*8+k)]:=(by rw[List.take_succ_eq_append_getElem (by omega),<-bFu l hp hk,aQ (by omega)]);rw[aB ⟨by simp;omega,by simp;omega⟩,aD (by omega) (by omega),<-e];rfl) (λ_=>by
  simp only[kQ];rw[List.take_of_length_le (by omega)];rfl)
 rw[Bool.cond_self,List.take_zero]at key;show x4 (x4 (iter (kQ h g (p:Int)) ([],((0:Nat):Int))) LO.val) _=_;rw[key];rfl
end
section
variable {m : DMove}
theorem bUz{x y:DGuest}(l:Live m.From m.G x)(k:Live m.To m.N y){p:Nat}(hp:p<8):uK m (p:Int)=some (decide (M.wordsAt m.From m.G p=M.wordsAt m.To m.N p)):=by have l3:=l.ok.three;have:=l.lo;have:=l.hi;have lp:=l.pages;have k3:=k.ok.three;have:=k.lo;have:=k.hi;have kp:=k.pages;have w1:=nP l hp;have w2:=nP k hp;unfold uK;simp only[l.at_,k.at_,iT];rw[aB ⟨by omega,by omega⟩,aB ⟨by omega,by omega⟩,aB ⟨by omega,by omega⟩,aB ⟨by omega,by omega⟩];show x4 (bV m.From.Words (x.Pages.getD p default)) _=_;rw[tZ l.ok.len (aX l hp),oB];show x4 (bV m.To.Words (y.Pages.getD p default)) _=_;rw[tZ k.ok.len (aX k hp),oB,<-wN l,<-wN k,bGc (by omega) (by omega)];rfl
theorem bAt(hs:SmallM m):qD m=some (M.moveOk m):=by
 unfold qD M.moveOk;rw[lG hs.f,oB];cases h1:M.there m.From m.G with
 |false=>rfl
 |true=>
  rw[bT,cFq,lG hs.t,oB];cases h2:M.there m.To m.N with
  |false=>rfl
  |true=>
   rw[bT,cFq];by_cases h3:m.Left.length=8
   · have l:=aU hs.f h1;have k:=aU hs.t h2
     have l3:=l.ok.three;have:=l.lo;have:=l.hi;have lp:=l.pages;rw[dT h3,dT (by omega),bT,cFq,aB ⟨by omega,by omega⟩]
     have key:=cH (n:=8) (step:=pS m) (λp=>(p:Int)) (M.sentOk m) (JO.go ()) (.out false) (λp hp _=>by
      simp only[pS,iT];rw[dT (p:=(p:Int)<_) (by omega),cTq,aB ⟨by omega,by omega⟩];unfold M.sentOk M.slotAt;cases((m.From.Guests.getD m.G.toNat default).Pages.getD p default).Dirty with
      |true=>rfl
      |false=>
       rw[cFq,aB ⟨by omega,by omega⟩];cases m.Left.getD p default with
       |true=>simp only[bT,cFq,oB,JO.run,uT];rw[aD (by omega) (by omega)];rfl
       |false=>
        rw[bF,cTq,bUz l k hp,oB];cases decide (M.wordsAt m.From m.G p=M.wordsAt m.To m.N p)with
        |false=>rfl
        |true=>simp only[bT,cFq,oB,JO.run,uT];rw[aD (by omega) (by omega)];rfl) (λ_=>by
      simp only[pS];rw[dF (by omega)];rfl)
     rw[show(0:Int)=((0:Nat):Int)from rfl,key];cases(u7 8).all (M.sentOk m)<;>rfl
   {rw[dF h3,dF (by omega)];rfl}
theorem bFb(hs:SmallM m):qE m=some (M.moveOk m):=by
 unfold qE M.moveOk;rw[wE hs.f,oB];cases h1:M.there m.From m.G with
 |false=>rfl
 |true=>
  rw[bT,cFq,wE hs.t,oB];cases h2:M.there m.To m.N with
  |false=>rfl
  |true=>
   rw[bT,cFq];by_cases h3:m.Left.length=8
   · have l:=aU hs.f h1;have k:=aU hs.t h2
     have l3:=l.ok.three;have:=l.lo;have:=l.hi;have lp:=l.pages;rw[dT h3,dT (by omega),bT,cFq]
     have key:=cH (n:=8) (step:=pL m) (λp=>(p:Int)) (M.sentOk m) (JO.go ()) (.out false) (λp hp _=>by
      have w1:=nP l hp;have w2:=nP k hp;simp only[pL,iT];rw[dT (p:=(p:Int)<_) (by omega),cTq,aB ⟨by omega,by omega⟩,aB ⟨by omega,by omega⟩];unfold M.sentOk M.slotAt;cases((m.From.Guests.getD m.G.toNat default).Pages.getD p default).Dirty with
      |true=>rfl
      |false=>
       rw[cFq,bDa l hp,oB,bDa k hp,oB]
       have inner:iter (iK m (p:Int) (M.wordsAt m.From m.G p) (M.wordsAt m.To m.N p)) 0=some (.ret (bif m.Left.getD p default||decide (M.wordsAt m.From m.G p=M.wordsAt m.To m.N p)then .go ()else .out (.ret (.out false)))):=by
        cases hl:m.Left.getD p default with
        |true=>rw[cR];simp only[iK,iT,hl];rw[dT (p:=(0:Int)<8) (by omega),cTq,aB ⟨by omega,by omega⟩];rfl
        |false=>
         have ik:=cH (n:=8) (step:=iK m (p:Int) (M.wordsAt m.From m.G p) (M.wordsAt m.To m.N p)) (λa=>(a:Int)) (λa=>decide ((M.wordsAt m.From m.G p).getD a default=(M.wordsAt m.To m.N p).getD a default)) (JO.go ()) (.out (.ret (.out false))) (λa ha _=>by
          simp only[iK,iT,hl];rw[dT (p:=(a:Int)<8) (by omega),cTq,aB ⟨by omega,by omega⟩,bF,cTq,aB ⟨by omega,by omega⟩,aB ⟨by omega,by omega⟩,aD (by omega) (by omega)];cases decide ((M.wordsAt m.From m.G p).getD a default=(M.wordsAt m.To m.N p).getD a default)<;>rfl) (λ_=>by
          simp only[iK];rfl)
         have e:((u7 8).all λa=>decide ((M.wordsAt m.From m.G p).getD a default=(M.wordsAt m.To m.N p).getD a default))=decide (M.wordsAt m.From m.G p=M.wordsAt m.To m.N p):=(by apply dbe;rw[w5,decide_eq_true_eq];constructor;{intro hh;exact fB w1 w2 λi hi=>of_decide_eq_true (hh i (f8.2 hi))};{intro e i _;rw[e];exact dT rfl});rw[e]at ik;rw[qQU];exact ik
       rw[inner];cases(m.Left.getD p default||decide (M.wordsAt m.From m.G p=M.wordsAt m.To m.N p))with
       |false=>rfl
       |true=>simp only[cTq,oB,LO.val,JO.run,aCj];rw[aD (by omega) (by omega)];rfl) (λ_=>by
      simp only[pL];rfl)
     rw[show(0:Int)=((0:Nat):Int)from rfl,key];cases(u7 8).all (M.sentOk m)<;>rfl
   {rw[dF h3,dF (by omega)];rfl}
theorem aJj{x y:DGuest}(k:MOk m x y):kZ m=some m:=by have:=k.len;unfold kZ;rw[aB ⟨by omega,by omega,by omega⟩,fQ k.sf k.here.ok,oB,fQ k.st k.there.ok,oB,aRk (by simp)]
theorem aBl{x y:DGuest}(k:MOk m x y):iH m=some m:=by have:=k.len;unfold iH;rw[wS k.sf k.here.ok.all,oB,wS k.st k.there.ok.all,oB,aB ⟨by omega,by omega⟩]
end
theorem aRm{g:DGuest}(hs:SmallG g)(h:g.Live=true\/g=M.noGuest):dQ g=some g:=by rcases h with hl|rfl;{unfold dQ;rw[hl,bT,cFq,dC hs.c.regs,xM hs.pages,dC hs.i,dC hs.o];simp only[oB];rw[<-hl]};{rfl}
theorem aVa{h:DHost}(hs:SmallH h)(hl:∀g∈h.Guests,g.Live=true\/g=M.noGuest):bI h=some h:=by
 unfold bI fL;have hg:=hs.guests;rw[dC hs.words,oB,aB ⟨by omega,by omega,by omega⟩]
 have key:=aYy (xs:=h.Guests) (ys:=j0 (Int.toNat (h.Guests.length:Int)) M.noGuest) (step:=cE h.Guests) (by simp) (λk zs hk hz=>by
  have h1:(k:Int)<(h.Guests.length:Int):=(by omega);simp only[cE,dT h1,cTq];rw[aB ⟨by omega,h1⟩,iT];show x4 (dQ (h.Guests.getD k default)) _=_;rw[aRm (hs.all _ (bN hk)) (hl _ (bN hk)),oB,aB ⟨by omega,by omega⟩,aD (by omega) (by omega)]) (λzs hz=>by
  simp only[cE];rw[dF (by omega),cFq])
 show x4 (x4 (x4 (iter (cE h.Guests) (j0 (Int.toNat (h.Guests.length:Int)) M.noGuest,0)) LO.val) _) _=_;rw[key];rfl
theorem bKu:eH=some (j0 8 M.nowhere):=by
 unfold eH
 have key:=cH (n:=8) (step:=dK) (λk=>(up (λ_=>M.nowhere) k (j0 8 ⟨0,false,false⟩),(k:Int))) (λ_=>true) (JO.go (j0 8 M.nowhere)) (JO.go (j0 8 M.nowhere)) (λk hk _=>by
  have hl:=zY (f:=λ_=>M.nowhere) (k:=k) (xs:=j0 8 (⟨0,false,false⟩:DSlot));rw[l6]at hl;have hp:=aCh (f:=λ_=>M.nowhere) (k:=k) (xs:=j0 8 (⟨0,false,false⟩:DSlot)) (by rw[l6];omega);simp only[dK,iT];rw[dT (p:=(k:Int)<_) (by rw[l6];omega),cTq,aB ⟨by omega,by omega⟩,aD (by omega) (by omega),cTq,<-hp];rfl) (λ_=>by
  simp only[dK];rw[aKg (by rw[l6];omega)];rfl)
 rw[Bool.cond_self]at key;have e:up (λ_=>M.nowhere) 0 (j0 8 (⟨0,false,false⟩:DSlot))=j0 8 ⟨0,false,false⟩:=aGe;rw[e]at key;show x4 (x4 (iter dK (j0 8 ⟨0,false,false⟩,((0:Nat):Int))) LO.val) _=_;rw[key];rfl
theorem bPz:oV=some (j0 8 true):=by
 unfold oV
 have key:=cH (n:=8) (step:=kY) (λk=>(up (λ_=>true) k (j0 8 false),(k:Int))) (λ_=>true) (JO.go (j0 8 true)) (JO.go (j0 8 true)) (λk hk _=>by
  have hl:=zY (f:=λ_=>true) (k:=k) (xs:=j0 8 false);rw[l6]at hl;have hp:=aCh (f:=λ_=>true) (k:=k) (xs:=j0 8 false) (by rw[l6];omega);simp only[kY,iT];rw[dT (p:=(k:Int)<_) (by rw[l6];omega),cTq,aB ⟨by omega,by omega⟩,aD (by omega) (by omega),cTq,<-hp];rfl) (λ_=>by
  simp only[kY];rw[aKg (by rw[l6];omega)];rfl)
 rw[Bool.cond_self]at key;have e:up (λ_=>true) 0 (j0 8 false)=j0 8 false:=aGe;rw[e]at key;show x4 (x4 (iter kY (j0 8 false,((0:Nat):Int))) LO.val) _=_;rw[key];rfl
section
variable {a b : DHost} {g : Int}
theorem bGd(ha:SmallH a)(hb:SmallH b):iJ a b g=some (M.moveBegin a b g):=by
 unfold iJ M.moveBegin;rw[lG ha,oB];cases ht:M.there a g with
 |false=>rfl
 |true=>
  have l:=aU ha ht;have l3:=l.ok.three;have:=l.lo;have:=l.hi;have lp:=l.pages;rw[bT,cFq,bDt hb,oB,f7];cases ho:M.hostOk b with
  |false=>rfl
  |true=>
   have kb:=cV.1 ho;have b3:=kb.three;have hr:=aHg b.Guests;rw[bT,cFq,bFz b3,oB,f7];by_cases e:M.gone b.Guests=-1;{rw[dT e,dF (by simp[e])];rfl}
   · have sx:=l.small
     rw[dF e,dT e,cFq,cTq,fQ ha l.ok,oB,aB ⟨by omega,by omega⟩,aSz (by omega),oB,aB ⟨by omega,by omega⟩,bKu,oB,aPq hb kb (by omega) (by omega),oB,aEy l,oB]
     have gl:∀y:DGuest,y.Live=true->∀z∈b.Guests.set (M.gone b.Guests).toNat y,z.Live=true\/z=M.noGuest:=λy hy z hz=>by
      rcases List.mem_or_eq_of_mem_set hz with hz|rfl
      · cases hl:z.Live with
        |true=>exact .inl rfl
        |false=>exact .inr (aWa (w5.1 kb.all z hz) hl)
      {exact .inl hy}
     have sg:∀y:DGuest,SmallG y->SmallH ⟨b.Words,b.Guests.set (M.gone b.Guests).toNat y⟩:=λy hy=>aDv hb hy;unfold bG;rw[aVa (sg _ ⟨⟨by decide⟩,by decide,by decide,by decide⟩) (gl _ rfl),oB,aAe ⟨sx.c,by show([]:List Int).length<=_;simp,sx.i,sx.o⟩,oB,aB ⟨by omega,by simp;omega⟩,aB ⟨by omega,by simp;omega⟩,aB ⟨by omega,by simp;omega⟩,oB,bPz,oB];have hlt:(M.gone b.Guests).toNat<b.Guests.length:=(by omega);simp only[uL hlt,List.set_set];rfl
theorem bYi(hk:HOk b):iter (fH b) (-1,2)=some (.ret (.go (M.gone b.Guests))):=by
 have h3:=hk.three
 have st:∀(i:Nat) (c:Int),i<3->fH b (c,(i:Int))=some (.next (bif (b.Guests.getD i default).Live then c else(i:Int),(i:Int)-1)):=λi c hi=>by
  simp only[fH,iT];rw[dT (p:=(0:Int)<=(i:Int)) (by omega),cTq,aB ⟨by omega,by omega⟩];cases(b.Guests.getD i default).Live
  all_goals
   simp only[bT,bF,cTq,cFq,oB,JO.run,wV];rw[aD (by omega) (by omega)]
 have sn:∀c:Int,fH b (c,-1)=some (.ret (.go c)):=λc=>by simp only[fH];rfl
 rw[show(2:Int)=((2:Nat):Int)from rfl,cR,st 2 _ (by omega)];simp only;rw[show((2:Nat):Int)-1=((1:Nat):Int)from rfl,cR,st 1 _ (by omega)];simp only;rw[show((1:Nat):Int)-1=((0:Nat):Int)from rfl,cR,st 0 _ (by omega)];simp only;rw[show((0:Nat):Int)-1=-1 from rfl,cR,sn];unfold M.gone;cases(b.Guests.getD 0 default).Live<;>cases(b.Guests.getD 1 default).Live<;>cases(b.Guests.getD 2 default).Live<;>rfl
theorem cAi{T:Type}{c:T}{k:Nat}:j0 k c++[c]=j0 (k+1) c:=by rw[List.replicate_succ']
theorem bGf{x:DGuest}(l:Live a g x):iter (iC g) (a.Guests,[],x.Pages,0)=some (.ret (.go (a.Guests.set g.toNat (M.mapG M.clean x),j0 8 true,j0 8 M.nowhere))):=by
 have h3:=l.ok.three;have:=l.lo;have:=l.hi;have hp:=l.pages
 have key:=cH (n:=8) (step:=iC g) (λk=>(a.Guests.set g.toNat (M.upG M.clean k x),j0 k true,up (λ_=>M.nowhere) k x.Pages,(k:Int))) (λ_=>true) (JO.go (a.Guests.set g.toNat (M.mapG M.clean x),j0 8 true,j0 8 M.nowhere)) (JO.go (a.Guests.set g.toNat (M.mapG M.clean x),j0 8 true,j0 8 M.nowhere)) (λk hk _=>by
  have hl:=zY (f:=M.clean) (k:=k) (xs:=x.Pages);have hl2:=zY (f:=λ_=>M.nowhere) (k:=k) (xs:=x.Pages);have hpl:(M.upG M.clean k x).Pages.length=8:=(by show(up M.clean k x.Pages).length=8;omega);have hs:=aCh (f:=M.clean) (k:=k) (xs:=x.Pages) (by omega);have hs2:=aCh (f:=λ_=>M.nowhere) (k:=k) (xs:=x.Pages) (by omega);have hq:=bKa (f:=M.clean) (k:=k) (xs:=x.Pages) (by omega);have e1:(a.Guests.set g.toNat (M.upG M.clean k x)).getD g.toNat default=M.upG M.clean k x:=aCo (by omega);simp only[iC,iT,e1];rw[dT (p:=(k:Int)<8) (by omega),cTq,aB ⟨by omega,by rw[lS];omega⟩,aB ⟨by omega,by omega⟩,aB ⟨by omega,by omega⟩,aB ⟨by simp;omega,by simp;omega⟩,aD (by omega) (by omega),cTq,List.set_set,cAi];show some (LO.next (a.Guests.set g.toNat (⟨x.Live,x.C,(up M.clean k x.Pages).set k ⟨((up M.clean k x.Pages).getD k default).Frame,((up M.clean k x.Pages).getD k default).Write,false⟩,x.In,x.Out⟩:DGuest),j0 (k+1) true,(up (λ_=>M.nowhere) k x.Pages).set k M.nowhere,(k:Int)+1))=some (LO.next (a.Guests.set g.toNat (⟨x.Live,x.C,up M.clean (k+1) x.Pages,x.In,x.Out⟩:DGuest),j0 (k+1) true,up (λ_=>M.nowhere) (k+1) x.Pages,((k+1:Nat):Int)));rw[hq,<-hs,<-hs2];rfl) (λ_=>by
  simp only[iC];rw[bHj (by omega),aKg (by omega)];have:x.Pages.map (λ_=>M.nowhere)=j0 8 M.nowhere:=(by rw[List.map_const',hp]);rw[this];rfl)
 rw[Bool.cond_self]at key;have e0:a.Guests.set g.toNat (M.upG M.clean 0 x)=a.Guests:=(by rw[bBk,<-l.at_];exact pT);have e1:up (λ_=>M.nowhere) 0 x.Pages=x.Pages:=aGe;rw[e0,e1]at key;exact key
theorem bFn(ha:SmallH a)(hb:SmallH b):pM a b g=some (M.moveBegin a b g):=by unfold pM M.moveBegin;rw[wE ha,oB];(cases ht:M.there a g with|false=>rfl|true=>have l:=aU ha ht;have l3:=l.ok.three;have:=l.lo;have:=l.hi;have lp:=l.pages;rw[bT,cFq,aGz hb,oB,f7];(cases ho:M.hostOk b with|false=>rfl|true=>have kb:=cV.1 ho;have b3:=kb.three;have hr:=aHg b.Guests;rw[bT,cFq,bYi kb,f7];simp only[oB,LO.val,JO.run,xG];by_cases e:M.gone b.Guests=-1;{rw[dT (p:=M.gone b.Guests<0) (by omega),dF (by simp[e])];rfl};{have gx:=aIa l.ok.all (i:=g.toNat) (by omega);rw[dF (p:=M.gone b.Guests<0) (by omega),dT e,cFq,cTq,wS ha l.ok.all,oB,wS hb kb.all,oB,aB ⟨by omega,by omega⟩];show x4 (eR (a.Guests.getD g.toNat default)) _=_;rw[aXd l.small gx,oB,bGf l];simp only[oB,LO.val,JO.run,xH];rw[aB ⟨by omega,by omega⟩];unfold M.arrival;rw[l.live];rfl}))
end
theorem aXv{ls:List Bool}(h:ls.length<=1048576):oM ls=some (((u7 ls.length).filter λp=>ls.getD p default).map λp:Nat=>(⟨2,(p:Int)⟩:DAct)):=by
 unfold oM
 have key:=cH (n:=ls.length) (step:=kN ls) (λk=>(((u7 k).filter λp=>ls.getD p default).map λp:Nat=>(⟨2,(p:Int)⟩:DAct),(k:Int))) (λ_=>true) (JO.go (((u7 ls.length).filter λp=>ls.getD p default).map λp:Nat=>(⟨2,(p:Int)⟩:DAct))) (JO.go []) (λk hk _=>by
  have hl:(((u7 k).filter λp=>ls.getD p default).map λp:Nat=>(⟨2,(p:Int)⟩:DAct)).length<=k:=(by rw[t8];exact Nat.le_trans (List.length_filter_le _ _) (by rw[List.length_range];exact k9 _));have er:(((u7 (k+1)).filter λp=>ls.getD p default).map λp:Nat=>(⟨2,(p:Int)⟩:DAct))=(((u7 k).filter λp=>ls.getD p default).map λp:Nat=>(⟨2,(p:Int)⟩:DAct))++(bif ls.getD k default then[⟨2,(k:Int)⟩]else[]):=(by rw[List.range_succ,List.filter_append,List.map_append];(cases hq:ls.getD k default with|true=>rw[List.filter_cons_of_pos (p:=λp=>ls.getD p default) hq];rfl|false=>rw[List.filter_cons_of_neg (p:=λp=>ls.getD p default) (by rw[hq];simp)];simp));simp only[kN,iT];rw[dT (p:=(k:Int)<_) (by omega),cTq,aB ⟨by omega,by omega⟩,er];cases ls.getD k default with
  |true=>rw[cTq,aB ⟨by simp only[y7,l7];omega,by simp only[y7,l7];omega⟩];simp only[oB,JO.run,tQ,cTq];rw[aD (by omega) (by omega)];rfl
  |false=>simp only[cFq,oB,JO.run,tQ,cTq,List.append_nil];rw[aD (by omega) (by omega)];rfl) (λ_=>by
  simp only[kN];rw[dF (by omega),cFq])
 have e:((u7 ls.length).all λ_=>true)=true:=(by simp);rw[e]at key;show x4 (x4 (iter (kN ls) ([],((0:Nat):Int))) LO.val) _=_;rw[show(([]:List DAct),((0:Nat):Int))=((((u7 0).filter λp=>ls.getD p default).map λp:Nat=>(⟨2,(p:Int)⟩:DAct)),((0:Nat):Int))from rfl,key];rfl
theorem bLk{ls:List Bool}:decide ((0:Int)<(((((u7 ls.length).filter λp=>ls.getD p default).map λp:Nat=>(⟨2,(p:Int)⟩:DAct)).length:Nat):Int))=!(ls.all λb=>!b):=by
 cases ha:ls.all λb=>!b with
 |true=>have:((u7 ls.length).filter λp=>ls.getD p default)=[]:=(by rw[List.filter_eq_nil_iff];intro p hp;have:=w5.1 ha _ (bN (f8.1 hp));rw[Bool.not_eq_true']at this;rw[this];simp);rw[this];rfl
 |false=>rw[List.all_eq_false]at ha;obtain⟨b,hb,hn⟩:=ha;obtain⟨i,hi,e⟩:=List.getElem_of_mem hb;have hm:i∈((u7 ls.length).filter λp=>ls.getD p default):=(by rw[List.mem_filter];refine⟨f8.2 hi,?_⟩;rw[aQ hi,e];(cases b with|true=>rfl|false=>exact absurd rfl hn));have:0<(((u7 ls.length).filter λp=>ls.getD p default).map λp:Nat=>(⟨2,(p:Int)⟩:DAct)).length:=(by rw[t8];exact List.length_pos_of_mem hm);rw[dT (by omega)];rfl
section
variable {m : DMove}
theorem bOz(hs:SmallM m):oH m=some (M.moveEnd m):=by
 unfold oH M.moveEnd;rw[bAt hs,oB];cases ho:M.moveOk m with
 |false=>rfl
 |true=>
  have k:=wG hs ho;have l:=k.here;have t:=k.there;have sx:=l.small;rw[bT,cFq,aXv hs.l,oB,bLk,f7];cases hl:m.Left.all (λb=>!b)with
  |false=>rfl
  |true=>rw[bT,cFq,cTq,bKr hs.f,oB,aEy l,oB,aAj hs.t t ⟨sx.c,by show([]:List Int).length<=_;simp,sx.i,sx.o⟩];rfl
theorem bRp(hs:SmallM m):oO m=some (M.moveEnd m):=by
 unfold oO M.moveEnd;rw[bFb hs,oB];cases ho:M.moveOk m with
 |false=>rfl
 |true=>
  have k:=wG hs ho;have l:=k.here;have t:=k.there;have l3:=l.ok.three;have:=l.lo;have:=l.hi;have lp:=l.pages;have t3:=t.ok.three;have:=t.lo;have:=t.hi;have tp:=t.pages;have h8:=k.len;have gx:=aIa l.ok.all (i:=m.G.toNat) (by omega);rw[bT,cFq,f7]
  have key:=cH (n:=m.Left.length) (step:=oC m) (λp=>(p:Int)) (λp=>!(m.Left.getD p default)) (JO.go ()) (.out (⟨[],[]⟩,⟨[],[]⟩,false)) (λp hp _=>by
   simp only[oC,iT];rw[dT (p:=(p:Int)<8) (by omega),cTq,aB ⟨by omega,by omega⟩,aD (by omega) (by omega)];cases m.Left.getD p default<;>rfl) (λ_=>by
   simp only[oC];rw[dF (by omega)];rfl)
  have ea:((u7 m.Left.length).all λp=>!(m.Left.getD p default))=m.Left.all λb=>!b:=by apply dbe;rw[w5,w5];constructor;{intro hh b hb;obtain⟨i,hi,e⟩:=List.getElem_of_mem hb;have:=hh i (f8.2 hi);rwa[aQ hi,e]at this};{intro hh i hi;exact hh _ (bN (f8.1 hi))}
  rw[ea]at key;rw[show(0:Int)=((0:Nat):Int)from rfl,key];cases hl:m.Left.all (λb=>!b)with
  |false=>rfl
  |true=>simp only[cTq,oB,LO.val,JO.run,aAp];have th:=pP l;rw[aBl k,oB,aB ⟨by omega,by omega⟩];show x4 (eR (m.From.Guests.getD m.G.toNat default)) _=_;rw[aXd l.small gx,oB,aB ⟨by omega,by omega⟩,aB ⟨by simp only[l7];omega,by simp only[l7];omega⟩,aB ⟨by omega,by omega⟩,aB ⟨by omega,by omega⟩];unfold M.hostDrop M.withM;rw[th,l.live,t.live];rfl
end
theorem bPg{T:Type}[Inhabited T]{p:T->Bool}{xs:List T}:((u7 xs.length).all λk=>p (xs.getD k default))=xs.all p:=by rw[Bool.eq_iff_iff,w5,w5];constructor;{intro h x hx;obtain⟨i,hi,e⟩:=List.getElem_of_mem hx;have:=h i (f8.2 hi);rwa[aQ hi,e]at this};{intro h i hi;exact h _ (bN (f8.1 hi))}
theorem bPu{qs:List Int}(h:qs.length<=1048576):sU qs=some (qs.all (M.inR 0 7)):=by
 unfold sU
 have key:=cH (n:=qs.length) (step:=kM qs) (λk=>(k:Int)) (λk=>M.inR 0 7 (qs.getD k default)) (JO.go ()) (.out false) (λk hk _=>by
  simp only[kM,iT];rw[dT (p:=(k:Int)<_) (by omega),cTq,aB ⟨by omega,by omega⟩,xS,oB,aD (by omega) (by omega)];cases M.inR 0 7 (qs.getD k default)<;>rfl) (λ_=>by
  simp only[kM];rw[dF (by omega),cFq])
 rw[bPg (p:=M.inR 0 7)]at key;show x4 (x4 (iter (kM qs) ((0:Nat):Int)) LO.val) _=_;rw[key];cases qs.all (M.inR 0 7)<;>rfl
theorem bNv{qs:List Int}{ps:List DSlot}{k:Nat}(h:k<qs.length):M.give ps (qs.take (k+1))=(M.give ps (qs.take k)).set (qs.getD k default).toNat M.nowhere:=by unfold M.give;rw[List.take_succ_eq_append_getElem h,List.foldl_append,aQ h];rfl
section
variable {h : DHost} {g : Int} {x : DGuest}
theorem bVr(l:Live h g x){qs:List Int}{k:Nat}(hk:k<qs.length):(h.Guests.set g.toNat (M.giveG x (qs.take k))).set g.toNat ⟨(M.giveG x (qs.take k)).Live,(M.giveG x (qs.take k)).C,(M.giveG x (qs.take k)).Pages.set (qs.getD k default).toNat ⟨-1,false,false⟩,(M.giveG x (qs.take k)).In,(M.giveG x (qs.take k)).Out⟩=h.Guests.set g.toNat (M.giveG x (qs.take (k+1))):=by rw[List.set_set];show h.Guests.set g.toNat (⟨x.Live,x.C,(M.give x.Pages (qs.take k)).set (qs.getD k default).toNat M.nowhere,x.In,x.Out⟩:DGuest)=h.Guests.set g.toNat (⟨x.Live,x.C,M.give x.Pages (qs.take (k+1)),x.In,x.Out⟩:DGuest);rw[bNv hk]
theorem bOx(l:Live h g x):h.Guests.set g.toNat (M.giveG x (([]:List Int).take 0))=h.Guests:=by have e:M.giveG x (([]:List Int).take 0)=x:=rfl;rw[e,<-l.at_];exact pT
end
theorem bKq{h:DHost}{g:Int}{qs:List Int}(hs:SmallH h)(hq:qs.length<=1048576):mY h g qs=some (M.hostGive h g qs):=by
 unfold mY M.hostGive;rw[lG hs,oB];cases ht:M.there h g with
 |false=>rfl
 |true=>
  have l:=aU hs ht;have hk:=l.ok;have h3:=hk.three;have:=l.lo;have:=l.hi;have hp:=l.pages;rw[bT,cFq,bPu hq,oB,f7];cases ho:qs.all (M.inR 0 7)with
  |false=>rfl
  |true=>
   rw[bT,cFq,fQ hs hk,oB]
   have key:=cH (n:=qs.length) (step:=jL g qs) (λk=>(h.Guests.set g.toNat (M.giveG (h.Guests.getD g.toNat default) (qs.take k)),(k:Int))) (λ_=>true) (JO.go (h.Guests.set g.toNat (M.giveG (h.Guests.getD g.toNat default) qs))) (JO.go (h.Guests.set g.toNat (M.giveG (h.Guests.getD g.toNat default) qs))) (λk hk2 _=>by
    have e1:(h.Guests.set g.toNat (M.giveG (h.Guests.getD g.toNat default) (qs.take k))).getD g.toNat default=M.giveG (h.Guests.getD g.toNat default) (qs.take k):=aCo (by omega);have hl:(M.giveG (h.Guests.getD g.toNat default) (qs.take k)).Pages.length=8:=give_len.trans hp;have hr:=M.inR_iff.1 (w5.1 ho _ (bN hk2));simp only[jL,iT,e1];rw[dT (p:=(k:Int)<_) (by omega),cTq,aB ⟨by omega,by omega⟩,aB ⟨by omega,by rw[lS];omega⟩,aB ⟨by omega,by omega⟩,aD (by omega) (by omega),cTq];exact congrArg (λz=>some (LO.next (z,(k:Int)+1))) (bVr l hk2)) (λ_=>by
    simp only[jL];rw[dF (by omega),cFq,List.take_length])
   rw[Bool.cond_self]at key;have e0:h.Guests.set g.toNat (M.giveG (h.Guests.getD g.toNat default) (qs.take 0))=h.Guests:=bOx l;rw[e0]at key;show x4 (x4 (iter (jL g qs) (h.Guests,((0:Nat):Int))) LO.val) _=_;rw[key];rfl
def fG(ls:List Bool)(ps:List DSlot)(k:Nat):List Bool:=(u7 8).map λp=>if p<k then ls.getD p default||(ps.getD p default).Dirty else ls.getD p default
section
variable {ls : List Bool} {ps : List DSlot} {k : Nat}
theorem eP:(fG ls ps k).length=8:=by simp[fG]
theorem kF{p:Nat}(hp:p<8):(fG ls ps k).getD p default=if p<k then ls.getD p default||(ps.getD p default).Dirty else ls.getD p default:=by rw[aQ (by rw[eP];exact hp)];simp only[fG,List.getElem_map,List.getElem_range]
theorem aEe{xs ys:List Bool}(h1:xs.length=8)(h2:ys.length=8)(h:∀p,p<8->xs.getD p default=ys.getD p default):xs=ys:=by refine List.ext_getElem (by omega) λi q1 q2=>?_;have:=h i (by omega);rwa[aQ q1,aQ q2]at this
theorem aFn(h:ls.length=8):fG ls ps 0=ls:=aEe eP h λp hp=>by rw[kF hp,if_neg (by omega)]
theorem aJl:fG ls ps 8=M.dirtied ls ps:=aEe eP aFc λp hp=>by rw[kF hp,if_pos hp,aPg hp]
theorem aAd(hk:k<8){b:Bool}(hb:b=(ls.getD k default||(ps.getD k default).Dirty)):(fG ls ps k).set k b=fG ls ps (k+1):=by refine aEe (by rw[lS,eP]) eP λp hp=>?_;rw[kF hp,x6,List.getElem?_set];by_cases e:k=p;{subst e;rw[if_pos rfl,if_pos (by rw[eP];exact hk),if_pos (by omega)];exact hb};{rw[if_neg e,<-x6,kF hp];by_cases q:p<k;{rw[if_pos q,if_pos (by omega)]};{rw[if_neg q,if_neg (by omega)]}}
theorem aWj(hk:k<8)(hd:(ps.getD k default).Dirty=false):fG ls ps k=fG ls ps (k+1):=by refine aEe eP eP λp hp=>?_;rw[kF hp,kF hp];by_cases e:p=k;{subst e;rw[if_neg (by omega),if_pos (by omega),hd,Bool.or_false]};{by_cases q:p<k;{rw[if_pos q,if_pos (by omega)]};{rw[if_neg q,if_neg (by omega)]}}
end
section
variable {m : DMove}
theorem bKy{h:DHost}{y:DGuest}(l:Live h m.G y)(hl:m.Left.length=8):iter (kU m) (m.Left,h.Guests,0)=some (.ret (.go (M.dirtied m.Left y.Pages,h.Guests.set m.G.toNat (M.mapG M.clean y)))):=by
 have h3:=l.ok.three;have:=l.lo;have:=l.hi;have hp:=l.pages
 have key:=cH (n:=8) (step:=kU m) (λk=>(fG m.Left y.Pages k,h.Guests.set m.G.toNat (M.upG M.clean k y),(k:Int))) (λ_=>true) (JO.go (M.dirtied m.Left y.Pages,h.Guests.set m.G.toNat (M.mapG M.clean y))) (JO.go (M.dirtied m.Left y.Pages,h.Guests.set m.G.toNat (M.mapG M.clean y))) (λk hk _=>by
  have hl:=zY (f:=M.clean) (k:=k) (xs:=y.Pages);have hpl:(M.upG M.clean k y).Pages.length=8:=(by show(up M.clean k y.Pages).length=8;omega);have hq:=bKa (f:=M.clean) (k:=k) (xs:=y.Pages) (by omega);have hq2:(M.upG M.clean k y).Pages.getD k default=y.Pages.getD k default:=hq;have e1:(h.Guests.set m.G.toNat (M.upG M.clean k y)).getD m.G.toNat default=M.upG M.clean k y:=aCo (by omega);have dl:=eP (ls:=m.Left) (ps:=y.Pages) (k:=k);simp only[kU,iT,e1,hq2];rw[dT (p:=(k:Int)<8) (by omega),cTq,aB ⟨by omega,by rw[lS];omega⟩,aB ⟨by omega,by omega⟩];cases hd:(y.Pages.getD k default).Dirty with
  |true=>have hs:=aCh (f:=M.clean) (k:=k) (xs:=y.Pages) (by omega);rw[cTq,aB ⟨by omega,by rw[lS];omega⟩,aB ⟨by omega,by omega⟩,aB ⟨by omega,by omega⟩,aAd hk (by rw[hd,Bool.or_true]),List.set_set];simp only[oB,JO.run,tP,cTq];rw[aD (by omega) (by omega)];show some (LO.next (fG m.Left y.Pages (k+1),h.Guests.set m.G.toNat (⟨y.Live,y.C,(up M.clean k y.Pages).set k ⟨(y.Pages.getD k default).Frame,(y.Pages.getD k default).Write,false⟩,y.In,y.Out⟩:DGuest),(k:Int)+1))=some (LO.next (fG m.Left y.Pages (k+1),h.Guests.set m.G.toNat (⟨y.Live,y.C,up M.clean (k+1) y.Pages,y.In,y.Out⟩:DGuest),((k+1:Nat):Int)));rw[<-hs];rfl
  |false=>simp only[cFq,oB,JO.run,tP,cTq];have hs:up M.clean k y.Pages=up M.clean (k+1) y.Pages:=bXa (by omega) (by generalize y.Pages.getD k default=s at hd;obtain⟨f,w,d⟩:=s;simp only at hd;subst hd;rfl);rw[aD (by omega) (by omega),<-aWj hk hd];unfold M.upG;rw[<-hs];rfl) (λ_=>by
  simp only[kU];rw[bHj (by omega),aJl];rfl)
 rw[Bool.cond_self]at key;have e0:h.Guests.set m.G.toNat (M.upG M.clean 0 y)=h.Guests:=(by rw[bBk,<-l.at_];exact pT);rw[e0,aFn hl]at key;exact key
theorem bLg{ws:List Int}(hl:ws.length=8):iter (kL ws) (true,0)=some (.ret (.go (M.zeros ws))):=by
 have key:=cH (n:=8) (step:=kL ws) (λk=>((u7 k).all λj=>decide (ws.getD j default=0),(k:Int))) (λ_=>true) (JO.go (M.zeros ws)) (.go true) (λk hk _=>by
  simp only[kL,iT];rw[dT (p:=(k:Int)<8) (by omega),cTq];have er:((u7 (k+1)).all λj=>decide (ws.getD j default=0))=(((u7 k).all λj=>decide (ws.getD j default=0))&&decide (ws.getD k default=0)):=(by rw[List.range_succ,List.all_append];simp);rw[er];cases((u7 k).all λj=>decide (ws.getD j default=0))with
  |true=>rw[cTq,aB ⟨by omega,by omega⟩];simp only[oB,JO.run,tY,f7,cTq];rw[aD (by omega) (by omega)];rfl
  |false=>simp only[cFq,oB,JO.run,tY,Bool.false_and,cTq];rw[aD (by omega) (by omega)];rfl) (λ_=>by
  simp only[kL];rfl)
 rw[show(u7 8).all (λ_=>true)=true by simp,cTq]at key;exact key
theorem bAf(hs:SmallM m){a:DAct}:kB m a=some (M.moveDo m a):=by unfold kB M.moveDo;rw[bFb hs,oB];(cases ho:M.moveOk m with|false=>rfl|true=>have k:=wG hs ho;have l:=k.here;have t:=k.there;have hl8:=k.len;have t3:=t.ok.three;have t0:=t.lo;have t1:=t.hi;have tp:=t.pages;rw[bT,cFq,aBl k,oB,cTq];(cases h1:decide (a.Kind=1)with|true=>rw[cTq,cTq,bMt k.sf,oB];unfold M.moveStep;(cases e:(M.hostStep m.From m.G).2 with|false=>simp only[bF,cTq,oB,JO.run,cFq]|true=>obtain⟨y,ly⟩:=aYm k.sf e;simp only[bT,cFq];rw[bKy ly hl8];simp only[oB,LO.val,JO.run,aAv,cTq];rw[sG ly,ly.at_])|false=>rw[cFq,cFq];simp only[oB,JO.run,aCu];(cases h2:decide (a.Kind=2)with|false=>rfl|true=>rw[bT,cFq,rB,oB,f7];(cases hp:M.inR 0 7 a.Page with|false=>rfl|true=>obtain⟨p0,p1⟩:=M.inR_iff.1 hp;have ep:a.Page=((a.Page.toNat:Nat):Int):=(by omega);have wl:=nP l (p:=a.Page.toNat) (by omega);have pg:=bDa l (p:=a.Page.toNat) (by omega);rw[<-ep]at pg;have th:M.there m.To m.N=true:=pP t;rw[bT,cFq,cTq,pg,oB,bLg wl];simp only[oB,LO.val,JO.run,aDq];rw[aB ⟨p0,by omega⟩];unfold M.moveSend M.placeW;(cases hz:M.zeros (M.wordsAt m.From m.G a.Page.toNat)with|true=>have hq:([a.Page]:List Int).all (M.inR 0 7)=true:=(by rw[List.all_cons,hp];rfl);have eg:M.hostGive m.To m.N [a.Page]=(⟨m.To.Words,m.To.Guests.set m.N.toNat (M.giveG (m.To.Guests.getD m.N.toNat default) [a.Page])⟩,true):=(by unfold M.hostGive;rw[th,hq];rfl);rw[cTq,cTq,aB ⟨by omega,by omega⟩,aB ⟨p0,by omega⟩,eg];rfl|false=>rw[cFq,cFq,aUo k.st,oB];unfold M.framed;(cases f2:(M.hostFill m.To m.N a.Page).2 with|false=>simp only[cFq,oB,JO.run,uS];rw[bF,cTq,aBl k];rfl|true=>obtain⟨y1,-,-,g1⟩:=aSf k.st t f2;rw[cTq,cTq,aSo g1.small];simp only[oB,JO.run,uS];(cases c2:(M.hostCopy (M.hostFill m.To m.N a.Page).1 m.N a.Page).2 with|false=>rw[bF,cTq,aBl k];rfl|true=>obtain⟨y2,g2,yl,bw,bf⟩:=aRt g1.small g1.live c2;have l2:=g2.live;have l3:=l2.ok.three;have lw:=l2.ok.len;have hf:=aX l2 (p:=a.Page.toNat) (by omega);rw[bT,cFq];unfold M.slotAt;simp only[l2.at_];rw[aD (z:=(y2.Pages.getD a.Page.toNat default).Frame*8) (by omega) (by omega),aB ⟨by omega,by omega⟩,aB ⟨p0,by omega⟩,aB ⟨by omega,by omega,by omega⟩,bAd wl (by omega),show Int.toNat ((y2.Pages.getD a.Page.toNat default).Frame*8)=(y2.Pages.getD a.Page.toNat default).Frame.toNat*8 by omega];rfl)))))))
theorem bJv{h:DHost}{ok:Bool}{y:DGuest}(l:Live h m.G y)(hl:m.Left.length=8):iter (fY m (h,ok)) (m.Left,0)=some (.ret (.go (M.dirtied m.Left y.Pages))):=by
 have h3:=l.ok.three;have:=l.lo;have:=l.hi;have hp:=l.pages
 have key:=cH (n:=8) (step:=fY m (h,ok)) (λk=>(fG m.Left y.Pages k,(k:Int))) (λ_=>true) (JO.go (M.dirtied m.Left y.Pages)) (JO.go (M.dirtied m.Left y.Pages)) (λk hk _=>by
  have dl:=eP (ls:=m.Left) (ps:=y.Pages) (k:=k);have dg:=kF (ls:=m.Left) (ps:=y.Pages) (k:=k) hk;rw[if_neg (by omega)]at dg;simp only[fY,iT,l.at_,dg];rw[dT (p:=(k:Int)<_) (by omega),cTq,aB ⟨by omega,by omega⟩,aB ⟨by omega,by omega⟩];cases hb:m.Left.getD k default with
  |true=>rw[cTq,aB ⟨by omega,by omega⟩,aAd hk (by rw[hb,Bool.true_or])];simp only[oB,JO.run,oK,cTq];rw[aD (by omega) (by omega)];rfl
  |false=>rw[cFq,aB ⟨by omega,by omega⟩,aAd hk (by rw[hb,qQU])];simp only[oB,JO.run,oK,cTq];rw[aD (by omega) (by omega)];rfl) (λ_=>by
  simp only[fY,l.at_];rw[dF (by omega),aJl];rfl)
 rw[Bool.cond_self,aFn hl]at key;exact key
theorem aZc{x y:DGuest}(k:MOk m x y):nG m=some (M.moveStep m):=by have hl8:=k.len;unfold nG M.moveStep;rw[aJj k,oB,bLp k.sf,oB];(cases e:(M.hostStep m.From m.G).2 with|false=>rfl|true=>obtain⟨y1,ly⟩:=aYm k.sf e;have l3:=ly.ok.three;have:=ly.lo;have:=ly.hi;have lp:=ly.pages;have sl:=bJv (ok:=(M.hostStep m.From m.G).2) ly hl8;rw[bT,cFq,aB ⟨by omega,by omega⟩,sl,cTq];simp only[oB,LO.val,JO.run,vX];rw[ly.at_,aB ⟨by omega,by omega⟩,aSz (by omega),oB,aB ⟨by omega,by omega⟩,sG ly];rfl)
theorem bGe{h:DHost}{g p:Int}{y:DGuest}{ws:List Int}(hs:SmallH h)(l:Live h g y)(p0:0<=p)(p1:p<=7)(h8:ws.length=8):iS h g p ws=some (M.placeW h g p ws):=by unfold iS M.placeW;rw[bLt h8,oB];(cases hz:M.zeros ws with|true=>rw[cTq,bKq hs (by simp)];rfl|false=>rw[cFq,cFq,aTf hs,oB];unfold M.framed;(cases f2:(M.hostFill h g p).2 with|false=>rfl|true=>obtain⟨y1,-,-,g1⟩:=aSf hs l f2;rw[bT,cFq,cTq,aVl g1.small,oB];(cases c2:(M.hostCopy (M.hostFill h g p).1 g p).2 with|false=>rfl|true=>obtain⟨y2,g2,yl,bw,bf⟩:=aRt g1.small g1.live c2;have l2:=g2.live;have l3:=l2.ok.three;have lw:=l2.ok.len;have:=l2.lo;have:=l2.hi;have hf:=aX l2 (p:=p.toNat) (by omega);rw[bT,cFq,cTq];unfold M.slotAt;simp only[l2.at_];rw[aB ⟨by omega,by omega⟩,aB ⟨p0,by omega⟩,aQf bf (by omega) (by omega),oB,aB rfl,aB (by simp only[];omega)])))
theorem bMz{x y:DGuest}(k:MOk m x y){q:Int}(q0:0<=q)(q1:q<=7):qV m q=some (M.moveSend m q):=by have l:=k.here;have t:=k.there;have l3:=l.ok.three;have:=l.lo;have:=l.hi;have lp:=l.pages;have hl8:=k.len;unfold qV M.moveSend;simp only[l.at_];rw[aJj k,oB,aB ⟨by omega,by omega⟩,aB ⟨by omega,by omega⟩];show x4 (bV m.From.Words (x.Pages.getD q.toNat default)) _=_;rw[tZ l.ok.len (aX l (by omega)),oB,<-wN l,bGe k.st t q0 q1 (nP l (by omega)),oB];(cases(M.placeW m.To m.N q (M.wordsAt m.From m.G q.toNat)).2 with|false=>rfl|true=>rw[bT,cFq,aB ⟨by omega,by omega⟩];rfl)
theorem bUs(hs:SmallM m){a:DAct}:qA m a=some (M.moveDo m a):=by unfold qA M.moveDo;rw[bAt hs,oB];(cases ho:M.moveOk m with|false=>rfl|true=>have k:=wG hs ho;rw[bT,cFq,cTq];(cases h1:decide (a.Kind=1)with|true=>rw[cTq,aZc k];rfl|false=>rw[cFq,cFq];(cases h2:decide (a.Kind=2)with|false=>rfl|true=>rw[cTq,xS,oB,f7];(cases hp:M.inR 0 7 a.Page with|false=>rfl|true=>obtain⟨p0,p1⟩:=M.inR_iff.1 hp;rw[cTq,bMz k p0 p1];rfl))))
end
theorem cFg{m n:Int}{r:Dl20Rd}(R:Rdr m r)(hm:m<=900000):Ex (uI r n) (λv=>Rdr (m+3) v.1):=by unfold uI;refine Ex.bind (aZt R (by omega)) λv1 R1=>?_;refine Ex.cond (λ_=>?_) λ_=>?_;{refine Ex.bind (aP R1 (by omega) (by omega)) λv2 ⟨R2,_,_⟩=>?_;exact Ex.bind (aP R2 (by omega) (by omega)) λv3 ⟨R3,_,_⟩=>Ex.ret (R3.up (by omega))};{refine Ex.bind (aP R1 (by omega) (by omega)) λv4 ⟨R4,_,_⟩=>?_;refine Ex.cond (λ_=>?_) λ_=>Ex.ret (R4.up (by omega));exact Ex.bind (aP R4 (by omega) (by omega)) λv5 ⟨R5,_,_⟩=>Ex.ret (R5.up (by omega))}
section
variable {m : DMove} {acts : List DAct}
theorem aTy(hs:SmallM m)(hl:acts.length<=1048576):jV m acts=some (acts.foldl M.act (m,0)):=by
 unfold jV
 have key:=pD (xs:=acts) (step:=jC acts) (λ(s:DMove×Int) i=>(s.1.From.Words,s.1.From.Guests,s.1.To.Words,s.1.To.Guests,s.1.G,s.1.N,s.1.Left,s.2,i)) M.act (λs=> .go (s.1.From.Words,s.1.From.Guests,s.1.To.Words,s.1.To.Guests,s.1.G,s.1.N,s.1.Left,s.2)) (λi s=>SmallM s.1/\0<=s.2/\s.2<=i) (λi x s h1 h2 h3 ⟨i1,i2,i3⟩=>by
  have hn:=bHp (s:=s) (a:=x);refine⟨?_,aKe i1,by omega,by omega⟩;obtain⟨n,c⟩:=s;obtain⟨kd,pg⟩:=x;simp only at i1 i2 i3;simp only[jC,dT h1,cTq];rw[aB ⟨by omega,h1⟩,iT,h3];show x4 (x4 (qA n ⟨kd,pg⟩) _) _=_;rw[bUs i1,oB];unfold M.act;cases hb:(M.moveDo n ⟨kd,pg⟩).2 with
  |false=>simp only[hb,bF,cTq,cFq,oB,JO.run,nN];rw[aD (by omega) (by omega)]
  |true=>
   simp only[hb,bT,cTq,cFq];cases decide (kd=1)with
   |false=>simp only[cFq,oB,JO.run,nN];rw[aD (by omega) (by omega)]
   |true=>simp only[cTq,oB,JO.run,nN];rw[aD (by omega) (by omega),aD (by omega) (by omega)]) (λs _=>by
  simp only[jC];rw[dF (by omega),cFq]) (m,0) ⟨hs,Int.le_refl 0,Int.le_refl 0⟩
 show x4 (x4 (iter (jC acts) (m.From.Words,m.From.Guests,m.To.Words,m.To.Guests,m.G,m.N,m.Left,(0:Int),(0:Int))) LO.val) _=_;rw[key.1];rfl
theorem cCt(hs:SmallM m)(hl:acts.length<=1048576):iter (kT acts) (m.From.Words,m.From.Guests,m.To.Words,m.To.Guests,m.G,m.N,m.Left,(0:Int),(0:Int))=some (.ret (.go ((acts.foldl M.act (m,0)).1.From.Words,(acts.foldl M.act (m,0)).1.From.Guests,(acts.foldl M.act (m,0)).1.To.Words,(acts.foldl M.act (m,0)).1.To.Guests,(acts.foldl M.act (m,0)).1.G,(acts.foldl M.act (m,0)).1.N,(acts.foldl M.act (m,0)).1.Left,(acts.foldl M.act (m,0)).2))):=by
 have key:=pD (xs:=acts) (step:=kT acts) (λ(s:DMove×Int) i=>(s.1.From.Words,s.1.From.Guests,s.1.To.Words,s.1.To.Guests,s.1.G,s.1.N,s.1.Left,s.2,i)) M.act (λs=> .go (s.1.From.Words,s.1.From.Guests,s.1.To.Words,s.1.To.Guests,s.1.G,s.1.N,s.1.Left,s.2)) (λi s=>SmallM s.1/\0<=s.2/\s.2<=i) (λi x s h1 h2 h3 ⟨i1,i2,i3⟩=>by
  have hn:=bHp (s:=s) (a:=x);refine⟨?_,aKe i1,by omega,by omega⟩;obtain⟨n,c⟩:=s;obtain⟨kd,pg⟩:=x;simp only at i1 i2 i3;simp only[kT,dT h1,cTq];rw[aB ⟨by omega,h1⟩,iT,h3];show x4 (x4 (kB n ⟨kd,pg⟩) _) _=_;rw[bAf i1,oB];unfold M.act;cases hb:(M.moveDo n ⟨kd,pg⟩).2 with
  |false=>simp only[hb,cTq,cFq,oB,JO.run,oA];rw[aD (by omega) (by omega)]
  |true=>
   simp only[hb,cTq,cFq];rw[aB ⟨by omega,h1⟩];cases decide (kd=1)with
   |false=>simp only[cFq,oB,JO.run,oA];rw[aD (by omega) (by omega)]
   |true=>simp only[cTq,oB,JO.run,oA];rw[aD (by omega) (by omega),aD (by omega) (by omega)]) (λs _=>by
  simp only[kT];rw[dF (by omega),cFq]) (m,0) ⟨hs,Int.le_refl 0,Int.le_refl 0⟩
 exact key.1
theorem bJx(hs:SmallM m)(ho:M.moveOk m=true):∀k,k<=8->(∀j,j<k->M.okAt (M.sp m j) j=true)->M.moveOk (M.sp m k)=true/\SmallM (M.sp m k)
 |0,_,_=>⟨ho,hs⟩
 |k+1,hk,h=>by obtain⟨i1,i2⟩:=bJx hs ho k (by omega) λj hj=>h j (by omega);have hok:=h k (Nat.lt_succ_self k);rw[aNd];(cases hl:(M.sp m k).Left.getD k default with|false=>exact⟨i1,i2⟩|true=>unfold M.okAt at hok;rw[hl,bT,qQU]at hok;obtain⟨-,e2,e3⟩:=aYq i2 (by omega) hok;exact⟨e2,e3⟩)
theorem bKj(hs:SmallM m)(ho:M.moveOk m=true):iter kW (m.From.Words,m.From.Guests,m.To.Words,m.To.Guests,m.G,m.N,m.Left,(0:Int))=some (.ret (bif (u7 8).all (λj=>M.okAt (M.sp m j) j)then .go ((M.sp m 8).From.Words,(M.sp m 8).From.Guests,(M.sp m 8).To.Words,(M.sp m 8).To.Guests,(M.sp m 8).G,(M.sp m 8).N,(M.sp m 8).Left)else .out (⟨[],[]⟩,⟨[],[]⟩,-1,0,false))):=by
 exact cH (n:=8) (step:=kW) (λk=>((M.sp m k).From.Words,(M.sp m k).From.Guests,(M.sp m k).To.Words,(M.sp m k).To.Guests,(M.sp m k).G,(M.sp m k).N,(M.sp m k).Left,(k:Int))) (λj=>M.okAt (M.sp m j) j) (.go ((M.sp m 8).From.Words,(M.sp m 8).From.Guests,(M.sp m 8).To.Words,(M.sp m 8).To.Guests,(M.sp m 8).G,(M.sp m 8).N,(M.sp m 8).Left)) (.out (⟨[],[]⟩,⟨[],[]⟩,-1,0,false)) (λk hk hh=>by
  obtain⟨o1,o2⟩:=bJx hs ho k (by omega) hh;have h8:=(wG o2 o1).len;rw[aNd];unfold M.okAt;simp only[kW,iT];rw[dT (p:=(k:Int)<8) (by omega),cTq,aB ⟨by omega,by omega⟩];cases hl:(M.sp m k).Left.getD k default with
  |false=>simp only[cFq,oB,JO.run,tM,bF,Bool.true_or,cTq];rw[aD (by omega) (by omega)];rfl
  |true=>
   rw[cTq];show x4 (x4 (kB (M.sp m k) (M.send k)) _) _=_;rw[bAf o2,oB];cases hb:(M.moveDo (M.sp m k) (M.send k)).2 with
   |false=>rfl
   |true=>simp only[bT,cFq,oB,JO.run,tM,qQU,cTq];rw[aD (by omega) (by omega)];rfl) (λ_=>by
  simp only[kW];rfl)
end
section
variable {a b : DHost} {g : Int} {acts : List DAct}
theorem bQk(ha:SmallH a)(hb:SmallH b)(hl:acts.length<=1048576):sO a b g acts=some (M.moveAll a b g acts):=by have sm:=aOz (g:=g) ha hb;unfold sO M.moveAll;rw[bGd ha hb,oB];(cases h2:(M.moveBegin a b g).2 with|false=>rfl|true=>rw[bT,cFq,f7];by_cases h:acts.length<=100;{have s1:=aBm (ts:=acts) (s:=((M.moveBegin a b g).1,0)) sm;have s2:=aBm (ts:=M.sends (acts.foldl M.act ((M.moveBegin a b g).1,0)).1.Left) (s:=((acts.foldl M.act ((M.moveBegin a b g).1,0)).1,0)) s1;have sl:(M.sends (acts.foldl M.act ((M.moveBegin a b g).1,0)).1.Left).length<=1048576:=(by have:=s1.l;unfold M.sends;rw[t8];exact Nat.le_trans (List.length_filter_le _ _) (by rw[List.length_range];exact this));rw[dT h,dF (by omega),cFq,cTq,aTy sm hl,oB,aXv s1.l,oB];show x4 (jV (acts.foldl M.act ((M.moveBegin a b g).1,0)).1 (M.sends (acts.foldl M.act ((M.moveBegin a b g).1,0)).1.Left)) _=_;rw[aTy s1 sl,oB];show x4 (oH (M.sentAll (acts.foldl M.act ((M.moveBegin a b g).1,0)).1)) _=_;rw[bOz (show SmallM (M.sentAll (acts.foldl M.act ((M.moveBegin a b g).1,0)).1)from s2),oB];cases(M.moveEnd (M.sentAll (acts.foldl M.act ((M.moveBegin a b g).1,0)).1)).2.2<;>rfl};{rw[dF h,dT (by omega)];rfl})
theorem bNu(ha:SmallH a)(hb:SmallH b)(hl:acts.length<=1048576):sT a b g acts=some (M.moveAll a b g acts):=by have sm:=aOz (g:=g) ha hb;unfold sT M.moveAll;rw[bFn ha hb,oB];(cases h2:(M.moveBegin a b g).2 with|false=>rfl|true=>rw[bT,cFq,f7];by_cases h:acts.length<=100;{have s1:=aBm (ts:=acts) (s:=((M.moveBegin a b g).1,0)) sm;obtain⟨c,v,-⟩:=(bCa ha hb h2).acts acts;have o1:=v.ok;rw[dT h,dF (by omega),cFq,cTq,cCt sm hl];generalize acts.foldl M.act ((M.moveBegin a b g).1,0)=w at s1 o1;have j2:tF (w.1.From.Words,w.1.From.Guests,w.1.To.Words,w.1.To.Guests,w.1.G,w.1.N,w.1.Left,w.2)=some (bif (M.moveEnd (M.sentAll w.1)).2.2 then((M.moveEnd (M.sentAll w.1)).1,(M.moveEnd (M.sentAll w.1)).2.1,(M.sentAll w.1).N,w.2,true)else(M.zeroH,M.zeroH,-1,0,false)):=(by unfold tF;rw[bKj s1 o1];rcases bMp s1 o1 with⟨e1,e2⟩|⟨e1,e2⟩;{have s8:=(bJx s1 o1 8 (k9 _) λj hj=>w5.1 e1 j (f8.2 hj)).2;rw[e1,e2];generalize M.sp w.1 8=n at s8;have me:=bRp s8;simp only[cTq,oB,LO.val,JO.run,aAl];show x4 (oO n) _=_;rw[me,oB];generalize M.moveEnd n=q;obtain⟨q1,q2,q3⟩:=q;cases q3;{rfl};{rfl}};{rw[e1,e2];rfl});exact j2};{rw[dF h,dT (by omega)];rfl})
end
theorem bQr{m:Int}(hm:m<=800000)(h0:0<=m)(s:(List Int)×Int×(List DAct)×Int)(hs:0<=s.2.2.2/\s.2.2.2<=23/\Rdr (m+3*(23-s.2.2.2)) ⟨s.1,s.2.1⟩/\(s.2.2.1.length:Int)+s.2.2.2<=23):
 Ex (oR s) (λo=>(∃s',o= .next s'/\(0<=s'.2.2.2/\s'.2.2.2<=23/\Rdr (m+3*(23-s'.2.2.2)) ⟨s'.1,s'.2.1⟩/\(s'.2.2.1.length:Int)+s'.2.2.2<=23)/\s'.2.2.2.toNat<s.2.2.2.toNat)\/∃t:(List Int)×Int×(List DAct),o= .ret (.go t)/\(Rdr (m+69) ⟨t.1,t.2.1⟩/\t.2.2.length<=23)):=by
 obtain⟨b,p,l,k⟩:=s;obtain⟨k0,k1,R,hl⟩:=hs;simp only at k0 k1 R hl;unfold oR;refine Ex.cond (λhk=>?_) λhk=>?_
 · have hk:0<k:=of_decide_eq_true hk
   refine Ex.bind (cFg R (by omega)) λv8 R8=>?_;refine Ex.grd ⟨by simp only[y7,l7];omega,by simp only[y7,l7];omega⟩ (Ex.ret (.inl ⟨_,rfl,⟨?_,?_,?_,?_⟩,?_⟩));all_goals simp only[aD (z:=k-1) (by omega) (by omega),List.length_append,y7,l7]
   {omega};{omega};{exact R8.up (by omega)};{omega};{omega}
 {have hk:¬0<k:=of_decide_eq_false hk;exact Ex.ret (.inr ⟨_,rfl,R.up (by omega),by show l.length<=23;omega⟩)}
theorem aZe{xs:List Int}(hx:∀x∈xs,0<=x/\x<=255):Ex (nF xs) (λv=>SmallH v.1/\SmallH v.2.1/\v.2.2.2.length<=23):=by unfold nF;refine Ex.bind (cBl hx) λr R=>?_;refine Ex.bind (bRn R (by omega) (by omega)) λv1 ⟨R1,s1⟩=>?_;refine Ex.bind (cFn R1 (by omega) (by omega)) λv2 ⟨R2,s2⟩=>?_;refine Ex.join (P:=λt:(List Int)×Int×(List DAct)=>Rdr 25000 ⟨t.1,t.2.1⟩/\t.2.2.length<=23) ?_ λt ⟨R3,hl⟩=>?_;{refine Ex.bind (aP R2 (by omega) (by omega)) λv6 ⟨R6,a6,b6⟩=>?_;exact Ex.loopv (λs:(List Int)×Int×(List DAct)×Int=>0<=s.2.2.2/\s.2.2.2<=23/\Rdr (24500+3*(23-s.2.2.2)) ⟨s.1,s.2.1⟩/\(s.2.2.1.length:Int)+s.2.2.2<=23) (λs=>s.2.2.2.toNat) (λt:(List Int)×Int×(List DAct)=>Rdr 25000 ⟨t.1,t.2.1⟩/\t.2.2.length<=23) ⟨a6,by show v6.2<=23;omega,R6.up (by simp only;omega),by simp only[l7];omega⟩ (λs hs=>(bQr (m:=24500) (by omega) (by omega) s hs).imp λo h=>⟨h.1,h.2.imp id λ⟨t,h1,h2,h3⟩=>⟨t,h1,h2.up (by omega),h3⟩⟩)};{unfold vZ;exact Ex.bind (cGh R3 (by omega)) λv5 _=>Ex.ret ⟨s1,s2,hl⟩}
theorem bFs{xs:List Int}(hx:∀x∈xs,0<=x/\x<=255):Ex (mG xs) (λb=>b=true):=by have al:Ex (x4 rV λv=>some v) (λb=>b=true):=Ex.bind (bYm (Q:=λb=>b=true) rfl) λb hb=>Ex.ret hb;unfold mG;refine Ex.cond (λ_=>Ex.ret rfl) λ_=>?_;refine Ex.bind (aZe hx) λv ⟨ha,hb,hl⟩=>?_;obtain⟨a,b,g,acts⟩:=v;have ha:SmallH a:=ha;have hb:SmallH b:=hb;have hl:acts.length<=23:=hl;obtain⟨za,zb⟩:=bQw (g:=g) (acts:=acts) ha hb;dsimp only;rw[bQk ha hb (by omega),oB,bNu ha hb (by omega),oB,beq_self_eq_true,bT,cFq,dT rfl,bT,cFq,dT rfl,bT,cFq,aJm za,oB,bT,cFq,aJm zb,oB,bT,cFq];(cases h2:(M.moveAll a b g acts).2.2.2.2 with|false=>have e:(M.moveAll a b g acts).2.2.1=-1:=(by unfold M.moveAll at h2 ⊢;(cases hc:((M.moveBegin a b g).2&&decide (acts.length<=100))with|false=>rfl|true=>rw[hc,cTq]at h2;rw[cTq];(cases he:(M.moveEnd (M.sentAll (acts.foldl M.act ((M.moveBegin a b g).1,0)).1)).2.2 with|false=>rfl|true=>rw[he]at h2;cases h2)));rw[bF,cTq,e,dT rfl,cTq];exact al|true=>obtain⟨c,v⟩:=bQf ha hb h2;have l:=aU ha v.was;have bo:=gT l;have vw:=v.view;have sm:SmallB (M.steps c (M.vw a.Words (a.Guests.getD g.toNat default))):=(aHp bo c).small;have:=v.most;rw[oY l]at vw;rw[bT,cFq,aBu ha,oB,oY l,aBu zb,oB,vw,cTq,bPa bo.small,oB,v.num,aZb bo (by omega),aJg sm,oB,cTq,aUj ha za (but:=g) v.here,oB,cTq,aUj hb zb v.there];exact Ex.ret rfl)
theorem bGa{xs:List Int}(hx:∀x∈xs,0<=x/\x<=255):mG xs=some true:=by obtain⟨_,h,rfl⟩:=bFs hx;exact h
end Go.Proofs.YtcgggihjcelmhaaGreat
