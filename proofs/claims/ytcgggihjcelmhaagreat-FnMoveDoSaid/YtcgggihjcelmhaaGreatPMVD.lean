/- The plain functions: what they answer. -/
import Derived.Test.YtcgggihjcelmhaaGreatPSWD
import Derived.Test.YtcgggihjcelmhaaGreatPJA
import Derived.Test.YtcgggihjcelmhaaGreatWFMD1
namespace Go.Proofs.YtcgggihjcelmhaaGreat
set_option linter.all false
section
variable {h : DHost} {g : Int} {x : DGuest}
theorem vP(l:Live h g x){p:Nat}:M.wordsAt h g p=M.pageWords h.Words (x.Pages.getD p default):=by unfold M.wordsAt M.slotAt;rw[l.at_]
theorem mP(l:Live h g x){p:Nat}(hp:p<8):(M.wordsAt h g p).length=8:=by rw[vP l];exact jL l.ok.len (aV l hp)
theorem bDb(l:Live h g x){p a:Nat}(hp:p<8)(ha:a<8):(M.wordsAt h g p).getD a default=M.word h.Words x.Pages (p*8+a):=by rw[vP l,jN (aV l hp) ha,aEp ha]
theorem aYk(l:Live h g x){p:Nat}(hp:p<8):kR h g (p:Int)=some (M.wordsAt h g p):=by
 have hw:=mP l hp;unfold kR
 have key:=cW (n:=8) (step:=jV h g (p:Int)) (λk=>((M.wordsAt h g p).take k,(k:Int))) (λ_=>true) (JO.go (M.wordsAt h g p)) (JO.go (M.wordsAt h g p)) (λk hk _=>by
  simp only[jV];rw[dT (p:=(k:Int)<8) (by omega),cTq,aD (z:=(p:Int)*8) (by omega) (by omega),aD (z:=(p:Int)*8+(k:Int)) (by omega) (by omega),show(p:Int)*8+(k:Int)=((p*8+k:Nat):Int) by omega,bBk l (by omega),oB];have e:(M.wordsAt h g p).take (k+1)=(M.wordsAt h g p).take k++[M.word h.Words x.Pages (p*8+k)]:=(by rw[List.take_succ_eq_append_getElem (by omega),<-bDb l hp hk,aQ (by omega)]);rw[aB ⟨by simp;omega,by simp;omega⟩,aD (by omega) (by omega),<-e];rfl) (λ_=>by
  simp only[jV];rw[List.take_of_length_le (by omega)];rfl)
 rw[Bool.cond_self,List.take_zero]at key;show Option.bind (Option.bind (iter (jV h g (p:Int)) ([],((0:Nat):Int))) LO.val) _=_;rw[key];rfl
end
section
variable {m : DMove}
theorem bPs{x y:DGuest}(l:Live m.From m.G x)(k:Live m.To m.N y){p:Nat}(hp:p<8):sQ m (p:Int)=some (decide (M.wordsAt m.From m.G p=M.wordsAt m.To m.N p)):=by have l3:=l.ok.three;have:=l.lo;have:=l.hi;have lp:=l.pages;have k3:=k.ok.three;have:=k.lo;have:=k.hi;have kp:=k.pages;have w1:=mP l hp;have w2:=mP k hp;unfold sQ;simp only[l.at_,k.at_,iT];rw[aB ⟨by omega,by omega⟩,aB ⟨by omega,by omega⟩,aB ⟨by omega,by omega⟩,aB ⟨by omega,by omega⟩];show Option.bind (bU m.From.Words (x.Pages.getD p default)) _=_;rw[sM l.ok.len (aV l hp),oB];show Option.bind (bU m.To.Words (y.Pages.getD p default)) _=_;rw[sM k.ok.len (aV k hp),oB,<-vP l,<-vP k,bDh (by omega) (by omega)];rfl
theorem aXq(hs:SmallM m):lT m=some (M.moveOk m):=by
 unfold lT M.moveOk;rw[oA hs.f,oB];cases h1:M.there m.From m.G with
 |false=>rfl
 |true=>
  rw[bT,cFq,oA hs.t,oB];cases h2:M.there m.To m.N with
  |false=>rfl
  |true=>
   rw[bT,cFq];by_cases h3:m.Left.length=8
   · have l:=aX hs.f h1;have k:=aX hs.t h2
     have l3:=l.ok.three;have:=l.lo;have:=l.hi;have lp:=l.pages;rw[dT h3,dT (by omega),bT,cFq,aB ⟨by omega,by omega⟩]
     have key:=cW (n:=8) (step:=oE m) (λp=>(p:Int)) (M.sentOk m) (JO.go ()) (.out false) (λp hp _=>by
      simp only[oE,iT];rw[dT (p:=(p:Int)<_) (by omega),cTq,aB ⟨by omega,by omega⟩];unfold M.sentOk M.slotAt;cases((m.From.Guests.getD m.G.toNat default).Pages.getD p default).Dirty with
      |true=>rfl
      |false=>
       rw[cFq,aB ⟨by omega,by omega⟩];cases m.Left.getD p default with
       |true=>simp only[bT,cFq,oB,JO.run,tK];rw[aD (by omega) (by omega)];rfl
       |false=>
        rw[bF,cTq,bPs l k hp,oB];cases decide (M.wordsAt m.From m.G p=M.wordsAt m.To m.N p)with
        |false=>rfl
        |true=>simp only[bT,cFq,oB,JO.run,tK];rw[aD (by omega) (by omega)];rfl) (λ_=>by
      simp only[oE];rw[dF (by omega)];rfl)
     rw[show(0:Int)=((0:Nat):Int)from rfl,key];cases(List.range 8).all (M.sentOk m)<;>rfl
   {rw[dF h3,dF (by omega)];rfl}
theorem bSd(hs:SmallM m):sT m=some (M.moveOk m):=by
 unfold sT M.moveOk;rw[vX hs.f,oB];cases h1:M.there m.From m.G with
 |false=>rfl
 |true=>
  rw[bT,cFq,vX hs.t,oB];cases h2:M.there m.To m.N with
  |false=>rfl
  |true=>
   rw[bT,cFq];by_cases h3:m.Left.length=8
   · have l:=aX hs.f h1;have k:=aX hs.t h2
     have l3:=l.ok.three;have:=l.lo;have:=l.hi;have lp:=l.pages;rw[dT h3,dT (by omega),bT,cFq]
     have key:=cW (n:=8) (step:=nV m) (λp=>(p:Int)) (M.sentOk m) (JO.go ()) (.out false) (λp hp _=>by
      have w1:=mP l hp;have w2:=mP k hp;simp only[nV,iT];rw[dT (p:=(p:Int)<_) (by omega),cTq,aB ⟨by omega,by omega⟩,aB ⟨by omega,by omega⟩];unfold M.sentOk M.slotAt;cases((m.From.Guests.getD m.G.toNat default).Pages.getD p default).Dirty with
      |true=>rfl
      |false=>
       rw[cFq,aYk l hp,oB,aYk k hp,oB]
       have inner:iter (hM m (p:Int) (M.wordsAt m.From m.G p) (M.wordsAt m.To m.N p)) 0=some (.ret (bif m.Left.getD p default||decide (M.wordsAt m.From m.G p=M.wordsAt m.To m.N p)then .go ()else .out (.ret (.out false)))):=by
        cases hl:m.Left.getD p default with
        |true=>rw[dC];simp only[hM,iT,hl];rw[dT (p:=(0:Int)<8) (by omega),cTq,aB ⟨by omega,by omega⟩];rfl
        |false=>
         have ik:=cW (n:=8) (step:=hM m (p:Int) (M.wordsAt m.From m.G p) (M.wordsAt m.To m.N p)) (λa=>(a:Int)) (λa=>decide ((M.wordsAt m.From m.G p).getD a default=(M.wordsAt m.To m.N p).getD a default)) (JO.go ()) (.out (.ret (.out false))) (λa ha _=>by
          simp only[hM,iT,hl];rw[dT (p:=(a:Int)<8) (by omega),cTq,aB ⟨by omega,by omega⟩,bF,cTq,aB ⟨by omega,by omega⟩,aB ⟨by omega,by omega⟩,aD (by omega) (by omega)];cases decide ((M.wordsAt m.From m.G p).getD a default=(M.wordsAt m.To m.N p).getD a default)<;>rfl) (λ_=>by
          simp only[hM];rfl)
         have e:((List.range 8).all λa=>decide ((M.wordsAt m.From m.G p).getD a default=(M.wordsAt m.To m.N p).getD a default))=decide (M.wordsAt m.From m.G p=M.wordsAt m.To m.N p):=(by apply dbe;rw[List.all_eq_true,decide_eq_true_eq];constructor;{intro hh;exact fJ w1 w2 λi hi=>of_decide_eq_true (hh i (List.mem_range.2 hi))};{intro e i _;rw[e];exact dT rfl});rw[e]at ik;rw[Bool.false_or];exact ik
       rw[inner];cases(m.Left.getD p default||decide (M.wordsAt m.From m.G p=M.wordsAt m.To m.N p))with
       |false=>rfl
       |true=>simp only[cTq,oB,LO.val,JO.run,aAu];rw[aD (by omega) (by omega)];rfl) (λ_=>by
      simp only[nV];rfl)
     rw[show(0:Int)=((0:Nat):Int)from rfl,key];cases(List.range 8).all (M.sentOk m)<;>rfl
   {rw[dF h3,dF (by omega)];rfl}
theorem aHp{x y:DGuest}(k:MOk m x y):jY m=some m:=by have:=k.len;unfold jY;rw[aB ⟨by omega,by omega,by omega⟩,gH k.sf k.here.ok,oB,gH k.st k.there.ok,oB,aOw (by simp)]
theorem aFb{x y:DGuest}(k:MOk m x y):kP m=some m:=by have:=k.len;unfold kP;rw[vM k.sf k.here.ok.all,oB,vM k.st k.there.ok.all,oB,aB ⟨by omega,by omega⟩]
end
section
variable {a b : DHost} {g : Int}
theorem bVj(hk:HOk b):iter (eU b) (-1,2)=some (.ret (.go (M.gone b.Guests))):=by
 have h3:=hk.three
 have st:∀(i:Nat) (c:Int),i<3->eU b (c,(i:Int))=some (.next (bif (b.Guests.getD i default).Live then c else(i:Int),(i:Int)-1)):=λi c hi=>by
  simp only[eU,iT];rw[dT (p:=(0:Int)<=(i:Int)) (by omega),cTq,aB ⟨by omega,by omega⟩];cases(b.Guests.getD i default).Live
  all_goals
   simp only[bT,bF,cTq,cFq,oB,JO.run,vR];rw[aD (by omega) (by omega)]
 have sn:∀c:Int,eU b (c,-1)=some (.ret (.go c)):=λc=>by simp only[eU];rfl
 rw[show(2:Int)=((2:Nat):Int)from rfl,dC,st 2 _ (by omega)];simp only;rw[show((2:Nat):Int)-1=((1:Nat):Int)from rfl,dC,st 1 _ (by omega)];simp only;rw[show((1:Nat):Int)-1=((0:Nat):Int)from rfl,dC,st 0 _ (by omega)];simp only;rw[show((0:Nat):Int)-1=-1 from rfl,dC,sn];unfold M.gone;cases(b.Guests.getD 0 default).Live<;>cases(b.Guests.getD 1 default).Live<;>cases(b.Guests.getD 2 default).Live<;>rfl
theorem cAt{T:Type}{c:T}{k:Nat}:List.replicate k c++[c]=List.replicate (k+1) c:=by rw[List.replicate_succ']
theorem bDm{x:DGuest}(l:Live a g x):iter (gY g) (a.Guests,[],x.Pages,0)=some (.ret (.go (a.Guests.set g.toNat (M.mapG M.clean x),List.replicate 8 true,List.replicate 8 M.nowhere))):=by
 have h3:=l.ok.three;have:=l.lo;have:=l.hi;have hp:=l.pages
 have key:=cW (n:=8) (step:=gY g) (λk=>(a.Guests.set g.toNat (M.upG M.clean k x),List.replicate k true,up (λ_=>M.nowhere) k x.Pages,(k:Int))) (λ_=>true) (JO.go (a.Guests.set g.toNat (M.mapG M.clean x),List.replicate 8 true,List.replicate 8 M.nowhere)) (JO.go (a.Guests.set g.toNat (M.mapG M.clean x),List.replicate 8 true,List.replicate 8 M.nowhere)) (λk hk _=>by
  have hl:=aEj (f:=M.clean) (k:=k) (xs:=x.Pages);have hl2:=aEj (f:=λ_=>M.nowhere) (k:=k) (xs:=x.Pages);have hpl:(M.upG M.clean k x).Pages.length=8:=(by show(up M.clean k x.Pages).length=8;omega);have hs:=aJl (f:=M.clean) (k:=k) (xs:=x.Pages) (by omega);have hs2:=aJl (f:=λ_=>M.nowhere) (k:=k) (xs:=x.Pages) (by omega);have hq:=bJa (f:=M.clean) (k:=k) (xs:=x.Pages) (by omega);have e1:(a.Guests.set g.toNat (M.upG M.clean k x)).getD g.toNat default=M.upG M.clean k x:=aBi (by omega);simp only[gY,iT,e1];rw[dT (p:=(k:Int)<8) (by omega),cTq,aB ⟨by omega,by rw[lS];omega⟩,aB ⟨by omega,by omega⟩,aB ⟨by omega,by omega⟩,aB ⟨by simp;omega,by simp;omega⟩,aD (by omega) (by omega),cTq,List.set_set,cAt];show some (LO.next (a.Guests.set g.toNat (⟨x.Live,x.C,(up M.clean k x.Pages).set k ⟨((up M.clean k x.Pages).getD k default).Frame,((up M.clean k x.Pages).getD k default).Write,false⟩,x.In,x.Out⟩:DGuest),List.replicate (k+1) true,(up (λ_=>M.nowhere) k x.Pages).set k M.nowhere,(k:Int)+1))=some (LO.next (a.Guests.set g.toNat (⟨x.Live,x.C,up M.clean (k+1) x.Pages,x.In,x.Out⟩:DGuest),List.replicate (k+1) true,up (λ_=>M.nowhere) (k+1) x.Pages,((k+1:Nat):Int)));rw[hq,<-hs,<-hs2];rfl) (λ_=>by
  simp only[gY];rw[bHa (by omega),bAd (by omega)];have:x.Pages.map (λ_=>M.nowhere)=List.replicate 8 M.nowhere:=(by rw[List.map_const',hp]);rw[this];rfl)
 rw[Bool.cond_self]at key;have e0:a.Guests.set g.toNat (M.upG M.clean 0 x)=a.Guests:=(by rw[bCd,<-l.at_];exact oM);have e1:up (λ_=>M.nowhere) 0 x.Pages=x.Pages:=aTq;rw[e0,e1]at key;exact key
theorem bDg(ha:SmallH a)(hb:SmallH b):nS a b g=some (M.moveBegin a b g):=by unfold nS M.moveBegin;rw[vX ha,oB];(cases ht:M.there a g with|false=>rfl|true=>have l:=aX ha ht;have l3:=l.ok.three;have:=l.lo;have:=l.hi;have lp:=l.pages;rw[bT,cFq,aFj hb,oB,Bool.true_and];(cases ho:M.hostOk b with|false=>rfl|true=>have kb:=dH.1 ho;have b3:=kb.three;have hr:=aSx b.Guests;rw[bT,cFq,bVj kb,Bool.true_and];simp only[oB,LO.val,JO.run,vY];by_cases e:M.gone b.Guests=-1;{rw[dT (p:=M.gone b.Guests<0) (by omega),dF (by simp[e])];rfl};{have gx:=aNr l.ok.all (i:=g.toNat) (by omega);rw[dF (p:=M.gone b.Guests<0) (by omega),dT e,cFq,cTq,vM ha l.ok.all,oB,vM hb kb.all,oB,aB ⟨by omega,by omega⟩];show Option.bind (hZ (a.Guests.getD g.toNat default)) _=_;rw[bDv l.small gx,oB,bDm l];simp only[oB,LO.val,JO.run,wB];rw[aB ⟨by omega,by omega⟩];unfold M.arrival;rw[l.live];rfl}))
end
section
variable {m : DMove}
end
theorem bLc{T:Type}[Inhabited T]{p:T->Bool}{xs:List T}:((List.range xs.length).all λk=>p (xs.getD k default))=xs.all p:=by rw[Bool.eq_iff_iff,List.all_eq_true,List.all_eq_true];constructor;{intro h x hx;obtain⟨i,hi,e⟩:=List.getElem_of_mem hx;have:=h i (List.mem_range.2 hi);rwa[aQ hi,e]at this};{intro h i hi;exact h _ (cC (List.mem_range.1 hi))}
theorem bMz{qs:List Int}(h:qs.length<=1048576):qV qs=some (qs.all (M.inR 0 7)):=by
 unfold qV
 have key:=cW (n:=qs.length) (step:=jR qs) (λk=>(k:Int)) (λk=>M.inR 0 7 (qs.getD k default)) (JO.go ()) (.out false) (λk hk _=>by
  simp only[jR,iT];rw[dT (p:=(k:Int)<_) (by omega),cTq,aB ⟨by omega,by omega⟩,wF,oB,aD (by omega) (by omega)];cases M.inR 0 7 (qs.getD k default)<;>rfl) (λ_=>by
  simp only[jR];rw[dF (by omega),cFq])
 rw[bLc (p:=M.inR 0 7)]at key;show Option.bind (Option.bind (iter (jR qs) ((0:Nat):Int)) LO.val) _=_;rw[key];cases qs.all (M.inR 0 7)<;>rfl
theorem bOf{qs:List Int}{ps:List DSlot}{k:Nat}(h:k<qs.length):M.give ps (qs.take (k+1))=(M.give ps (qs.take k)).set (qs.getD k default).toNat M.nowhere:=by unfold M.give;rw[List.take_succ_eq_append_getElem h,List.foldl_append,aQ h];rfl
section
variable {h : DHost} {g : Int} {x : DGuest}
theorem bTa(l:Live h g x){qs:List Int}{k:Nat}(hk:k<qs.length):(h.Guests.set g.toNat (M.giveG x (qs.take k))).set g.toNat ⟨(M.giveG x (qs.take k)).Live,(M.giveG x (qs.take k)).C,(M.giveG x (qs.take k)).Pages.set (qs.getD k default).toNat ⟨-1,false,false⟩,(M.giveG x (qs.take k)).In,(M.giveG x (qs.take k)).Out⟩=h.Guests.set g.toNat (M.giveG x (qs.take (k+1))):=by rw[List.set_set];show h.Guests.set g.toNat (⟨x.Live,x.C,(M.give x.Pages (qs.take k)).set (qs.getD k default).toNat M.nowhere,x.In,x.Out⟩:DGuest)=h.Guests.set g.toNat (⟨x.Live,x.C,M.give x.Pages (qs.take (k+1)),x.In,x.Out⟩:DGuest);rw[bOf hk]
theorem bNb(l:Live h g x):h.Guests.set g.toNat (M.giveG x (([]:List Int).take 0))=h.Guests:=by have e:M.giveG x (([]:List Int).take 0)=x:=rfl;rw[e,<-l.at_];exact oM
end
theorem bJi{h:DHost}{g:Int}{qs:List Int}(hs:SmallH h)(hq:qs.length<=1048576):mB h g qs=some (M.hostGive h g qs):=by
 unfold mB M.hostGive;rw[oA hs,oB];cases ht:M.there h g with
 |false=>rfl
 |true=>
  have l:=aX hs ht;have hk:=l.ok;have h3:=hk.three;have:=l.lo;have:=l.hi;have hp:=l.pages;rw[bT,cFq,bMz hq,oB,Bool.true_and];cases ho:qs.all (M.inR 0 7)with
  |false=>rfl
  |true=>
   rw[bT,cFq,gH hs hk,oB]
   have key:=cW (n:=qs.length) (step:=iU g qs) (λk=>(h.Guests.set g.toNat (M.giveG (h.Guests.getD g.toNat default) (qs.take k)),(k:Int))) (λ_=>true) (JO.go (h.Guests.set g.toNat (M.giveG (h.Guests.getD g.toNat default) qs))) (JO.go (h.Guests.set g.toNat (M.giveG (h.Guests.getD g.toNat default) qs))) (λk hk2 _=>by
    have e1:(h.Guests.set g.toNat (M.giveG (h.Guests.getD g.toNat default) (qs.take k))).getD g.toNat default=M.giveG (h.Guests.getD g.toNat default) (qs.take k):=aBi (by omega);have hl:(M.giveG (h.Guests.getD g.toNat default) (qs.take k)).Pages.length=8:=give_len.trans hp;have hr:=M.inR_iff.1 (List.all_eq_true.1 ho _ (cC hk2));simp only[iU,iT,e1];rw[dT (p:=(k:Int)<_) (by omega),cTq,aB ⟨by omega,by omega⟩,aB ⟨by omega,by rw[lS];omega⟩,aB ⟨by omega,by omega⟩,aD (by omega) (by omega),cTq];exact congrArg (λz=>some (LO.next (z,(k:Int)+1))) (bTa l hk2)) (λ_=>by
    simp only[iU];rw[dF (by omega),cFq,List.take_length])
   rw[Bool.cond_self]at key;have e0:h.Guests.set g.toNat (M.giveG (h.Guests.getD g.toNat default) (qs.take 0))=h.Guests:=bNb l;rw[e0]at key;show Option.bind (Option.bind (iter (iU g qs) (h.Guests,((0:Nat):Int))) LO.val) _=_;rw[key];rfl
def eT(ls:List Bool)(ps:List DSlot)(k:Nat):List Bool:=(List.range 8).map λp=>if p<k then ls.getD p default||(ps.getD p default).Dirty else ls.getD p default
section
variable {ls : List Bool} {ps : List DSlot} {k : Nat}
theorem eE:(eT ls ps k).length=8:=by simp[eT]
theorem jH{p:Nat}(hp:p<8):(eT ls ps k).getD p default=if p<k then ls.getD p default||(ps.getD p default).Dirty else ls.getD p default:=by rw[aQ (by rw[eE];exact hp)];simp only[eT,List.getElem_map,List.getElem_range]
theorem aCg{xs ys:List Bool}(h1:xs.length=8)(h2:ys.length=8)(h:∀p,p<8->xs.getD p default=ys.getD p default):xs=ys:=by refine List.ext_getElem (by omega) λi q1 q2=>?_;have:=h i (by omega);rwa[aQ q1,aQ q2]at this
theorem aEd(h:ls.length=8):eT ls ps 0=ls:=aCg eE h λp hp=>by rw[jH hp,if_neg (by omega)]
theorem aHi:eT ls ps 8=M.dirtied ls ps:=aCg eE aDl λp hp=>by rw[jH hp,if_pos hp,aNj hp]
theorem yU(hk:k<8){b:Bool}(hb:b=(ls.getD k default||(ps.getD k default).Dirty)):(eT ls ps k).set k b=eT ls ps (k+1):=by refine aCg (by rw[lS,eE]) eE λp hp=>?_;rw[jH hp,List.getD_eq_getElem?_getD,List.getElem?_set];by_cases e:k=p;{subst e;rw[if_pos rfl,if_pos (by rw[eE];exact hk),if_pos (by omega)];exact hb};{rw[if_neg e,<-List.getD_eq_getElem?_getD,jH hp];by_cases q:p<k;{rw[if_pos q,if_pos (by omega)]};{rw[if_neg q,if_neg (by omega)]}}
theorem aUy(hk:k<8)(hd:(ps.getD k default).Dirty=false):eT ls ps k=eT ls ps (k+1):=by refine aCg eE eE λp hp=>?_;rw[jH hp,jH hp];by_cases e:p=k;{subst e;rw[if_neg (by omega),if_pos (by omega),hd,Bool.or_false]};{by_cases q:p<k;{rw[if_pos q,if_pos (by omega)]};{rw[if_neg q,if_neg (by omega)]}}
end
section
variable {m : DMove}
theorem bHr{h:DHost}{y:DGuest}(l:Live h m.G y)(hl:m.Left.length=8):iter (jU m) (m.Left,h.Guests,0)=some (.ret (.go (M.dirtied m.Left y.Pages,h.Guests.set m.G.toNat (M.mapG M.clean y)))):=by
 have h3:=l.ok.three;have:=l.lo;have:=l.hi;have hp:=l.pages
 have key:=cW (n:=8) (step:=jU m) (λk=>(eT m.Left y.Pages k,h.Guests.set m.G.toNat (M.upG M.clean k y),(k:Int))) (λ_=>true) (JO.go (M.dirtied m.Left y.Pages,h.Guests.set m.G.toNat (M.mapG M.clean y))) (JO.go (M.dirtied m.Left y.Pages,h.Guests.set m.G.toNat (M.mapG M.clean y))) (λk hk _=>by
  have hl:=aEj (f:=M.clean) (k:=k) (xs:=y.Pages);have hpl:(M.upG M.clean k y).Pages.length=8:=(by show(up M.clean k y.Pages).length=8;omega);have hq:=bJa (f:=M.clean) (k:=k) (xs:=y.Pages) (by omega);have hq2:(M.upG M.clean k y).Pages.getD k default=y.Pages.getD k default:=hq;have e1:(h.Guests.set m.G.toNat (M.upG M.clean k y)).getD m.G.toNat default=M.upG M.clean k y:=aBi (by omega);have dl:=eE (ls:=m.Left) (ps:=y.Pages) (k:=k);simp only[jU,iT,e1,hq2];rw[dT (p:=(k:Int)<8) (by omega),cTq,aB ⟨by omega,by rw[lS];omega⟩,aB ⟨by omega,by omega⟩];cases hd:(y.Pages.getD k default).Dirty with
  |true=>have hs:=aJl (f:=M.clean) (k:=k) (xs:=y.Pages) (by omega);rw[cTq,aB ⟨by omega,by rw[lS];omega⟩,aB ⟨by omega,by omega⟩,aB ⟨by omega,by omega⟩,yU hk (by rw[hd,Bool.or_true]),List.set_set];simp only[oB,JO.run,rV,cTq];rw[aD (by omega) (by omega)];show some (LO.next (eT m.Left y.Pages (k+1),h.Guests.set m.G.toNat (⟨y.Live,y.C,(up M.clean k y.Pages).set k ⟨(y.Pages.getD k default).Frame,(y.Pages.getD k default).Write,false⟩,y.In,y.Out⟩:DGuest),(k:Int)+1))=some (LO.next (eT m.Left y.Pages (k+1),h.Guests.set m.G.toNat (⟨y.Live,y.C,up M.clean (k+1) y.Pages,y.In,y.Out⟩:DGuest),((k+1:Nat):Int)));rw[<-hs];rfl
  |false=>simp only[cFq,oB,JO.run,rV,cTq];have hs:up M.clean k y.Pages=up M.clean (k+1) y.Pages:=bWg (by omega) (by generalize y.Pages.getD k default=s at hd;obtain⟨f,w,d⟩:=s;simp only at hd;subst hd;rfl);rw[aD (by omega) (by omega),<-aUy hk hd];unfold M.upG;rw[<-hs];rfl) (λ_=>by
  simp only[jU];rw[bHa (by omega),aHi];rfl)
 rw[Bool.cond_self]at key;have e0:h.Guests.set m.G.toNat (M.upG M.clean 0 y)=h.Guests:=(by rw[bCd,<-l.at_];exact oM);rw[e0,aEd hl]at key;exact key
theorem bJf{ws:List Int}(hl:ws.length=8):iter (jX ws) (true,0)=some (.ret (.go (M.zeros ws))):=by
 have key:=cW (n:=8) (step:=jX ws) (λk=>((List.range k).all λj=>decide (ws.getD j default=0),(k:Int))) (λ_=>true) (JO.go (M.zeros ws)) (.go true) (λk hk _=>by
  simp only[jX,iT];rw[dT (p:=(k:Int)<8) (by omega),cTq];have er:((List.range (k+1)).all λj=>decide (ws.getD j default=0))=(((List.range k).all λj=>decide (ws.getD j default=0))&&decide (ws.getD k default=0)):=(by rw[List.range_succ,List.all_append];simp);rw[er];cases((List.range k).all λj=>decide (ws.getD j default=0))with
  |true=>rw[cTq,aB ⟨by omega,by omega⟩];simp only[oB,JO.run,sE,Bool.true_and,cTq];rw[aD (by omega) (by omega)];rfl
  |false=>simp only[cFq,oB,JO.run,sE,Bool.false_and,cTq];rw[aD (by omega) (by omega)];rfl) (λ_=>by
  simp only[jX];rfl)
 rw[show(List.range 8).all (λ_=>true)=true by simp,cTq]at key;exact key
theorem aYq(hs:SmallM m){a:DAct}:oP m a=some (M.moveDo m a):=by unfold oP M.moveDo;rw[bSd hs,oB];(cases ho:M.moveOk m with|false=>rfl|true=>have k:=aSn hs ho;have l:=k.here;have t:=k.there;have hl8:=k.len;have t3:=t.ok.three;have t0:=t.lo;have t1:=t.hi;have tp:=t.pages;rw[bT,cFq,aFb k,oB,cTq];(cases h1:decide (a.Kind=1)with|true=>rw[cTq,cTq,bJt k.sf,oB];unfold M.moveStep;(cases e:(M.hostStep m.From m.G).2 with|false=>simp only[bF,cTq,oB,JO.run,cFq]|true=>obtain⟨y,ly⟩:=aWk k.sf e;simp only[bT,cFq];rw[bHr ly hl8];simp only[oB,LO.val,JO.run,zG,cTq];rw[rI ly,ly.at_])|false=>rw[cFq,cFq];simp only[oB,JO.run,aBe];(cases h2:decide (a.Kind=2)with|false=>rfl|true=>rw[bT,cFq,qB,oB,Bool.true_and];(cases hp:M.inR 0 7 a.Page with|false=>rfl|true=>obtain⟨p0,p1⟩:=M.inR_iff.1 hp;have ep:a.Page=((a.Page.toNat:Nat):Int):=(by omega);have wl:=mP l (p:=a.Page.toNat) (by omega);have pg:=aYk l (p:=a.Page.toNat) (by omega);rw[<-ep]at pg;have th:M.there m.To m.N=true:=uY t;rw[bT,cFq,cTq,pg,oB,bJf wl];simp only[oB,LO.val,JO.run,aBn];rw[aB ⟨p0,by omega⟩];unfold M.moveSend M.placeW;(cases hz:M.zeros (M.wordsAt m.From m.G a.Page.toNat)with|true=>have hq:([a.Page]:List Int).all (M.inR 0 7)=true:=(by rw[List.all_cons,hp];rfl);have eg:M.hostGive m.To m.N [a.Page]=(⟨m.To.Words,m.To.Guests.set m.N.toNat (M.giveG (m.To.Guests.getD m.N.toNat default) [a.Page])⟩,true):=(by unfold M.hostGive;rw[th,hq];rfl);rw[cTq,cTq,aB ⟨by omega,by omega⟩,aB ⟨p0,by omega⟩,eg];rfl|false=>rw[cFq,cFq,aQk k.st,oB];unfold M.framed;(cases f2:(M.hostFill m.To m.N a.Page).2 with|false=>simp only[cFq,oB,JO.run,tX];rw[bF,cTq,aFb k];rfl|true=>obtain⟨y1,-,-,g1⟩:=aOz k.st t f2;rw[cTq,cTq,aQy g1.small];simp only[oB,JO.run,tX];(cases c2:(M.hostCopy (M.hostFill m.To m.N a.Page).1 m.N a.Page).2 with|false=>rw[bF,cTq,aFb k];rfl|true=>obtain⟨y2,g2,yl,bw,bf⟩:=aPv g1.small g1.live c2;have l2:=g2.live;have l3:=l2.ok.three;have lw:=l2.ok.len;have hf:=aV l2 (p:=a.Page.toNat) (by omega);rw[bT,cFq];unfold M.slotAt;simp only[l2.at_];rw[aD (z:=(y2.Pages.getD a.Page.toNat default).Frame*8) (by omega) (by omega),aB ⟨by omega,by omega⟩,aB ⟨p0,by omega⟩,aB ⟨by omega,by omega,by omega⟩,aYu wl (by omega),show Int.toNat ((y2.Pages.getD a.Page.toNat default).Frame*8)=(y2.Pages.getD a.Page.toNat default).Frame.toNat*8 by omega];rfl)))))))
theorem bJj{h:DHost}{ok:Bool}{y:DGuest}(l:Live h m.G y)(hl:m.Left.length=8):iter (fN m (h,ok)) (m.Left,0)=some (.ret (.go (M.dirtied m.Left y.Pages))):=by
 have h3:=l.ok.three;have:=l.lo;have:=l.hi;have hp:=l.pages
 have key:=cW (n:=8) (step:=fN m (h,ok)) (λk=>(eT m.Left y.Pages k,(k:Int))) (λ_=>true) (JO.go (M.dirtied m.Left y.Pages)) (JO.go (M.dirtied m.Left y.Pages)) (λk hk _=>by
  have dl:=eE (ls:=m.Left) (ps:=y.Pages) (k:=k);have dg:=jH (ls:=m.Left) (ps:=y.Pages) (k:=k) hk;rw[if_neg (by omega)]at dg;simp only[fN,iT,l.at_,dg];rw[dT (p:=(k:Int)<_) (by omega),cTq,aB ⟨by omega,by omega⟩,aB ⟨by omega,by omega⟩];cases hb:m.Left.getD k default with
  |true=>rw[cTq,aB ⟨by omega,by omega⟩,yU hk (by rw[hb,Bool.true_or])];simp only[oB,JO.run,nB,cTq];rw[aD (by omega) (by omega)];rfl
  |false=>rw[cFq,aB ⟨by omega,by omega⟩,yU hk (by rw[hb,Bool.false_or])];simp only[oB,JO.run,nB,cTq];rw[aD (by omega) (by omega)];rfl) (λ_=>by
  simp only[fN,l.at_];rw[dF (by omega),aHi];rfl)
 rw[Bool.cond_self,aEd hl]at key;exact key
theorem aWm{x y:DGuest}(k:MOk m x y):mE m=some (M.moveStep m):=by have hl8:=k.len;unfold mE M.moveStep;rw[aHp k,oB,bHj k.sf,oB];(cases e:(M.hostStep m.From m.G).2 with|false=>rfl|true=>obtain⟨y1,ly⟩:=aWk k.sf e;have l3:=ly.ok.three;have:=ly.lo;have:=ly.hi;have lp:=ly.pages;have sl:=bJj (ok:=(M.hostStep m.From m.G).2) ly hl8;rw[bT,cFq,aB ⟨by omega,by omega⟩,sl,cTq];simp only[oB,LO.val,JO.run,uF];rw[ly.at_,aB ⟨by omega,by omega⟩,bJq (by omega),oB,aB ⟨by omega,by omega⟩,rI ly];rfl)
theorem bDq{h:DHost}{g p:Int}{y:DGuest}{ws:List Int}(hs:SmallH h)(l:Live h g y)(p0:0<=p)(p1:p<=7)(h8:ws.length=8):iC h g p ws=some (M.placeW h g p ws):=by unfold iC M.placeW;rw[bHy h8,oB];(cases hz:M.zeros ws with|true=>rw[cTq,bJi hs (by simp)];rfl|false=>rw[cFq,cFq,aTc hs,oB];unfold M.framed;(cases f2:(M.hostFill h g p).2 with|false=>rfl|true=>obtain⟨y1,-,-,g1⟩:=aOz hs l f2;rw[bT,cFq,cTq,aRq g1.small,oB];(cases c2:(M.hostCopy (M.hostFill h g p).1 g p).2 with|false=>rfl|true=>obtain⟨y2,g2,yl,bw,bf⟩:=aPv g1.small g1.live c2;have l2:=g2.live;have l3:=l2.ok.three;have lw:=l2.ok.len;have:=l2.lo;have:=l2.hi;have hf:=aV l2 (p:=p.toNat) (by omega);rw[bT,cFq,cTq];unfold M.slotAt;simp only[l2.at_];rw[aB ⟨by omega,by omega⟩,aB ⟨p0,by omega⟩,aOi bf (by omega) (by omega),oB,aB rfl,aB (by simp only[];omega)])))
theorem bJs{x y:DGuest}(k:MOk m x y){q:Int}(q0:0<=q)(q1:q<=7):pL m q=some (M.moveSend m q):=by have l:=k.here;have t:=k.there;have l3:=l.ok.three;have:=l.lo;have:=l.hi;have lp:=l.pages;have hl8:=k.len;unfold pL M.moveSend;simp only[l.at_];rw[aHp k,oB,aB ⟨by omega,by omega⟩,aB ⟨by omega,by omega⟩];show Option.bind (bU m.From.Words (x.Pages.getD q.toNat default)) _=_;rw[sM l.ok.len (aV l (by omega)),oB,<-vP l,bDq k.st t q0 q1 (mP l (by omega)),oB];(cases(M.placeW m.To m.N q (M.wordsAt m.From m.G q.toNat)).2 with|false=>rfl|true=>rw[bT,cFq,aB ⟨by omega,by omega⟩];rfl)
theorem bOv(hs:SmallM m){a:DAct}:tH m a=some (M.moveDo m a):=by unfold tH M.moveDo;rw[aXq hs,oB];(cases ho:M.moveOk m with|false=>rfl|true=>have k:=aSn hs ho;rw[bT,cFq,cTq];(cases h1:decide (a.Kind=1)with|true=>rw[cTq,aWm k];rfl|false=>rw[cFq,cFq];(cases h2:decide (a.Kind=2)with|false=>rfl|true=>rw[cTq,wF,oB,Bool.true_and];(cases hp:M.inR 0 7 a.Page with|false=>rfl|true=>obtain⟨p0,p1⟩:=M.inR_iff.1 hp;rw[cTq,bJs k p0 p1];rfl))))
end
theorem bTz{m n:Int}{r:Dl20Rd}(R:Rdr m r)(hm:m<=900000):Ex (oL r n) (λv=>Rdr (m+3) v.1):=by unfold oL;refine Ex.bind (aSc R (by omega)) λv1 R1=>?_;refine Ex.cond (λ_=>?_) λ_=>?_;{refine Ex.bind (aL R1 (by omega) (by omega)) λv2 ⟨R2,_,_⟩=>?_;exact Ex.bind (aL R2 (by omega) (by omega)) λv3 ⟨R3,_,_⟩=>Ex.ret (R3.up (by omega))};{refine Ex.bind (aL R1 (by omega) (by omega)) λv4 ⟨R4,_,_⟩=>?_;refine Ex.cond (λ_=>?_) λ_=>Ex.ret (R4.up (by omega));exact Ex.bind (aL R4 (by omega) (by omega)) λv5 ⟨R5,_,_⟩=>Ex.ret (R5.up (by omega))}
theorem bDd {m:Int} (hm:m<=800000) (h0:0<=m) (s:(List Int)×Int×(List Int)×(List DGuest)×(List Int)×(List DGuest)×Int×Int×(List Bool)×Int)
 (hs:0<=s.2.2.2.2.2.2.2.2.2/\s.2.2.2.2.2.2.2.2.2<=13/\Rdr (m+3*(13-s.2.2.2.2.2.2.2.2.2)) ⟨s.1,s.2.1⟩/\SmallM ⟨⟨s.2.2.1,s.2.2.2.1⟩,⟨s.2.2.2.2.1,s.2.2.2.2.2.1⟩,s.2.2.2.2.2.2.1,s.2.2.2.2.2.2.2.1,s.2.2.2.2.2.2.2.2.1⟩):
 Ex (nY s) (λo=>(∃s',o= .next s'/\(0<=s'.2.2.2.2.2.2.2.2.2/\s'.2.2.2.2.2.2.2.2.2<=13/\Rdr (m+3*(13-s'.2.2.2.2.2.2.2.2.2)) ⟨s'.1,s'.2.1⟩/\SmallM ⟨⟨s'.2.2.1,s'.2.2.2.1⟩,⟨s'.2.2.2.2.1,s'.2.2.2.2.2.1⟩,s'.2.2.2.2.2.2.1,s'.2.2.2.2.2.2.2.1,s'.2.2.2.2.2.2.2.2.1⟩)/\s'.2.2.2.2.2.2.2.2.2.toNat<s.2.2.2.2.2.2.2.2.2.toNat)\/∃t,o= .ret (.go t)/\(Rdr (m+39) ⟨t.1,t.2.1⟩/\SmallM ⟨⟨t.2.2.1,t.2.2.2.1⟩,⟨t.2.2.2.2.1,t.2.2.2.2.2.1⟩,t.2.2.2.2.2.2.1,t.2.2.2.2.2.2.2.1,t.2.2.2.2.2.2.2.2⟩)):=by
 obtain⟨b,p,fw,fg,tw,tg,g,n,l,k⟩:=s;obtain⟨k0,k1,R,sm⟩:=hs;simp only at k0 k1 R sm;unfold nY;refine Ex.cond (λhk=>?_) λhk=>?_
 · have hk:0<k:=of_decide_eq_true hk
   refine Ex.join (P:=λt:(List Int)×Int×(List Int)×(List DGuest)×(List Int)×(List DGuest)×Int×Int×(List Bool)=>Rdr (m+3*(13-k)+3) ⟨t.1,t.2.1⟩/\SmallM ⟨⟨t.2.2.1,t.2.2.2.1⟩,⟨t.2.2.2.2.1,t.2.2.2.2.2.1⟩,t.2.2.2.2.2.2.1,t.2.2.2.2.2.2.2.1,t.2.2.2.2.2.2.2.2⟩) ?_ λt ⟨R1,h1⟩=>?_;{refine Ex.bind (bTz R (by omega)) λv15 R15=>?_;rw[aYq sm,oB];exact Ex.cond (λ_=>Ex.ret ⟨_,rfl,R15,bCk sm⟩) λ_=>Ex.ret ⟨_,rfl,R15,sm⟩}
   · unfold vB
     refine Ex.ret (.inl ⟨_,rfl,⟨?_,?_,?_,h1⟩,?_⟩);all_goals simp only[aD (z:=k-1) (by omega) (by omega)]
     {omega};{omega};{exact R1.up (by omega)};{omega}
 {have hk:¬0<k:=of_decide_eq_false hk;exact Ex.ret (.inr ⟨_,rfl,R.up (by omega),sm⟩)}
theorem bQj{m n:Int}{r:Dl20Rd}(R:Rdr m r)(h0:0<=m)(hm:m<=300000):Ex (oG r n) (λv=>Rdr (m+25000) v.1/\SmallM v.2):=by unfold oG;refine Ex.bind (bMh R h0 (by omega)) λv1 ⟨R1,s1⟩=>?_;refine Ex.bind (cCh R1 (by omega) (by omega)) λv2 ⟨R2,s2⟩=>?_;refine Ex.bind (cDg R2 (by omega)) λv3 R3=>?_;rw[bDg s1 s2,oB];have sm:=bDi (g:=v3.2) s1 s2;refine Ex.join (P:=λt:(List Int)×Int×(List Int)×(List DGuest)×(List Int)×(List DGuest)×Int×Int×(List Bool)=>Rdr (m+24200) ⟨t.1,t.2.1⟩/\SmallM ⟨⟨t.2.2.1,t.2.2.2.1⟩,⟨t.2.2.2.2.1,t.2.2.2.2.2.1⟩,t.2.2.2.2.2.2.1,t.2.2.2.2.2.2.2.1,t.2.2.2.2.2.2.2.2⟩) ?_ λt ⟨R5,h5⟩=>?_;{refine Ex.bind (aL R3 (by omega) (by omega)) λv12 ⟨R12,a12,b12⟩=>?_;exact Ex.loopv (λs:(List Int)×Int×(List Int)×(List DGuest)×(List Int)×(List DGuest)×Int×Int×(List Bool)×Int=>0<=s.2.2.2.2.2.2.2.2.2/\s.2.2.2.2.2.2.2.2.2<=13/\Rdr (m+24104+3*(13-s.2.2.2.2.2.2.2.2.2)) ⟨s.1,s.2.1⟩/\SmallM ⟨⟨s.2.2.1,s.2.2.2.1⟩,⟨s.2.2.2.2.1,s.2.2.2.2.2.1⟩,s.2.2.2.2.2.2.1,s.2.2.2.2.2.2.2.1,s.2.2.2.2.2.2.2.2.1⟩) (λs=>s.2.2.2.2.2.2.2.2.2.toNat) (λt:(List Int)×Int×(List Int)×(List DGuest)×(List Int)×(List DGuest)×Int×Int×(List Bool)=>Rdr (m+24200) ⟨t.1,t.2.1⟩/\SmallM ⟨⟨t.2.2.1,t.2.2.2.1⟩,⟨t.2.2.2.2.1,t.2.2.2.2.2.1⟩,t.2.2.2.2.2.2.1,t.2.2.2.2.2.2.2.1,t.2.2.2.2.2.2.2.2⟩) ⟨a12,by show v12.2<=13;omega,R12.up (by simp only;omega),sm⟩ (λs hs=>(bDd (m:=m+24104) (by omega) (by omega) s hs).imp λo h=>⟨h.1,h.2.imp id λ⟨t,h1,h2,h3⟩=>⟨t,h1,h2.up (by omega),h3⟩⟩)};{unfold vZ;have hl:=h5.l;have hl:t.2.2.2.2.2.2.2.2.length<=1048576:=hl;refine Ex.join (P:=λs:List Bool×List Int×Int×Int=>Rdr (m+25000) ⟨s.2.1,s.2.2.1⟩/\s.1.length<=1048576) ?_ λs ⟨R6,h6⟩=>?_;{refine Ex.cond (λh8=>?_) λ_=>Ex.ret ⟨_,rfl,R5.up (by omega),hl⟩;have h8:=of_decide_eq_true h8;refine Ex.bind (aSc R5 (by omega)) λv7 R7=>?_;refine Ex.cond (λ_=>?_) λ_=>Ex.ret ⟨_,rfl,R7.up (by omega),hl⟩;refine Ex.bind (aL R7 (by omega) (by omega)) λv8 ⟨R8,_,_⟩=>?_;refine Ex.cond (λ_=>?_) λ_=>Ex.cond (λ_=>?_) λ_=>?_;{refine Ex.bind (aL R8 (by omega) (by omega)) λv9 ⟨R9,a9,b9⟩=>?_;refine Ex.bind (aL R9 (by omega) (by omega)) λv10 ⟨R10,_,_⟩=>?_;exact Ex.grd ⟨a9,by omega⟩ (Ex.ret ⟨_,rfl,R10.up (by omega),by simp only[lS];exact hl⟩)};{exact Ex.grd ⟨by omega,by omega,by omega⟩ (Ex.ret ⟨_,rfl,R8.up (by omega),by simp only[List.length_take];omega⟩)};{exact Ex.bind (aL R8 (by omega) (by omega)) λv11 ⟨R11,_,_⟩=>Ex.ret ⟨_,rfl,R11.up (by omega),hl⟩}};{unfold wA;exact Ex.ret ⟨R6,h5.f,h5.t,h6⟩}}
theorem aWn{m:DMove}(hs:SmallM m):pO m m=some true:=by
 have hl:=hs.l;unfold pO;rw[aHo hs.f,aHo hs.t];simp only[decide_true,bT,cFq,oB]
 have key:=cW (n:=m.Left.length) (step:=mK m m) (λi=>(i:Int)) (λ_=>true) (JO.go ()) (.out false) (λi hi _=>by
  simp only[mK,iT];rw[dT (p:=(i:Int)<_) (by omega),cTq,aB ⟨by omega,by omega⟩,aB ⟨by omega,by omega⟩,aD (by omega) (by omega)];simp only[beq_self_eq_true,bT,cFq,cTq];rfl) (λ_=>by
  simp only[mK];rw[dF (by omega),cFq])
 have e:(List.range m.Left.length).all (λ_=>true)=true:=(by simp);rw[e]at key;rw[show(0:Int)=((0:Nat):Int)from rfl,key];rfl
theorem bBa{xs:List Int}(hx:∀x∈xs,0<=x/\x<=255):Ex (mU xs) (λv=>SmallM v.1):=by unfold mU;refine Ex.bind (bZl hx) λr R=>?_;refine Ex.bind (bQj R (by omega) (by omega)) λv ⟨R2,hs⟩=>?_;exact Ex.bind (bTz R2 (by omega)) λ_ _=>Ex.ret hs
theorem bHz{xs:List Int}(hx:∀x∈xs,0<=x/\x<=255):Ex (mC xs) (λb=>b=true):=by
 have al:Ex (Option.bind qC λv=>some v) (λb=>b=true):=Ex.bind (bUl (Q:=λb=>b=true) rfl) λb hb=>Ex.ret hb;unfold mC;refine Ex.cond (λ_=>Ex.ret rfl) λ_=>?_;refine Ex.bind (bBa hx) λv hs=>?_;obtain⟨m,a⟩:=v;have hs:SmallM m:=hs;have hz:=bCk (a:=a) hs;dsimp only;rw[bOv hs,oB,aYq hs,oB,beq_self_eq_true,bT,cFq,aWn hz,oB,bT,cFq];cases h2:(M.moveDo m a).2 with
 |false=>exact al
 |true=>
  obtain⟨ho,d⟩:=bBw hs h2;obtain⟨x,y,k⟩:=d.ok;have k0:=aSn hs ho;have l:=k0.here;have hb:=fU l;have v1:=aRi hs.f hz.f (but:=m.G) d.here;have v2:=aRi hs.t hz.t (but:=m.N) d.there;have hv:=d.view;have mo:=aXq hz;rw[bT,cFq,zU hs.f,oB,zU hz.f,oB];rw[uC l]at hv ⊢;have fin:∀w:DBare,SmallB w->M.hostView (M.moveDo m a).1.From m.G=(w,true)->qN (m,a) (M.moveDo m a) (M.hostView (M.moveDo m a).1.From m.G) (w.C.Regs,w.C.Pc,w.C.Root,w.C.Vector,w.C.Saved,w.C.SavedUser,w.C.Cause,w.C.Bad,w.C.Timer,w.C.Waits,w.C.User,w.C.On,w.C.Stopped,w.Mem,w.In,w.Out)=some true:=λw sw e=>by unfold qN;rw[mo,oB,k.ok,cTq,e];show Option.bind (jF w w) _=_;rw[aHj sw,oB,cTq,v1,oB,cTq,v2];rfl
  (cases h1:decide (a.Kind=1)with|true=>rw[h1]at hv;have e2:M.bareStep (M.vw m.From.Words (m.From.Guests.getD m.G.toNat default))=M.step (M.vw m.From.Words (m.From.Guests.getD m.G.toNat default)):=(by unfold M.bareStep;rw[aKs.2 hb];rfl);rw[cTq,bJy hb.small,oB,e2];exact⟨true,fin _ (aEh hb).small hv,rfl⟩|false=>rw[h1]at hv;rw[cFq];exact⟨true,fin _ hb.small hv,rfl⟩)
theorem bKk{xs:List Int}(hx:∀x∈xs,0<=x/\x<=255):mC xs=some true:=by obtain⟨_,h,rfl⟩:=bHz hx;exact h
end Go.Proofs.YtcgggihjcelmhaaGreat
