/- The plain functions: what they answer. -/
import Derived.Test.YtcgggihjcelmhaaPUM
import Derived.Test.YtcgggihjcelmhaaWEMO1
import Derived.Test.YtcgggihjcelmhaaZY
import Derived.Test.YtcgggihjcelmhaaWEME1
namespace Go.Proofs.Ytcgggihjcelmhaa
set_option linter.all false
section
variable {h : DHost} {g : Int} {x : DGuest}
theorem vJ(l:Live h g x):M.there h g=true:=eS.2 ⟨l.ok,l.lo,l.hi,by rw[l.at_];exact l.live⟩
theorem aZy(l:Live h g x):M.guestExit h g=M.xExit h.Words x:=by unfold M.guestExit;rw[vJ l,cTq,l.at_]
theorem aCv(l:Live h g x):M.hostView h g=(M.vw h.Words x,true):=by unfold M.hostView;rw[vJ l,cTq,l.at_];rfl
theorem aLq(hs:SmallH h)(l:Live h g x){p f:Int}(p0:0<=p)(p1:p<=7)(f0:0<=f)(f1:f<20)(hok:HOk (M.inFrame h g p f)):Live (M.inFrame h g p f) g (hY x p.toNat f):=by have g0:=l.lo;have g1:=l.hi;have hg:=(aKe (f:=f) l p0 p1).1;have:=dB (yI (p:=p) (f:=f) hs l f0 f1) (eS.2 ⟨hok,g0,g1,by rw[hg];exact l.live⟩);rwa[hg]at this
theorem aQd(l:Live h g x){p q:Nat}{f:Int}(hp:p<8)(f0:0<=f){w:Bool}:M.lackS ((hY x p f).Pages.getD q default) w=if q=p then false else M.lackS (x.Pages.getD q default) w:=by have hpl:=l.pages;show M.lackS ((x.Pages.set p _).getD q default) w=_;by_cases e:q=p;{subst e;rw[if_pos rfl,bM (by rw[lS];omega),List.getElem_set_self];unfold M.lackS;simp only[bT,Bool.and_false,Bool.or_false];exact dF (by omega)};{rw[if_neg e];congr 1;simp only[List.getD_eq_getElem?_getD,List.getElem?_set];rw[if_neg (by omega)]}
theorem bBq{a b:Bool}(h:a=true->b=true):M.one a<=M.one b:=by cases a;{exact Nat.zero_le _};{rw[h rfl];exact Nat.le_refl _}
theorem aXa (l:Live h g x) {p:Nat} {f:Int} (hp:p<8) (f0:0<=f) {b:DBare}
 (hl:(M.reads b=true/\(M.wpc b/8).toNat=p/\M.lackS (x.Pages.getD p default) false=true)\/(M.comes b=true/\(M.wad b/8).toNat=p/\M.lackS (x.Pages.getD p default) (M.isSt b)=true)):
 M.cnt (hY x p f).Pages b<M.cnt x.Pages b:=by
 unfold M.cnt;rw[aQd l hp f0,aQd l hp f0];have h1:M.one (M.reads b&&if(M.wpc b/8).toNat=p then false else M.lackS (x.Pages.getD (M.wpc b/8).toNat default) false)<=M.one (M.reads b&&M.lackS (x.Pages.getD (M.wpc b/8).toNat default) false):=bBq λh=>by split at h;{simp at h};{exact h}
 have h2:M.one (M.comes b&&if(M.wad b/8).toNat=p then false else M.lackS (x.Pages.getD (M.wad b/8).toNat default) (M.isSt b))<=M.one (M.comes b&&M.lackS (x.Pages.getD (M.wad b/8).toNat default) (M.isSt b)):=bBq λh=>by split at h;{simp at h};{exact h}
 rcases hl with⟨a1,a2,a3⟩|⟨a1,a2,a3⟩;{have e1:M.one (M.reads b&&M.lackS (x.Pages.getD (M.wpc b/8).toNat default) false)=1:=(by rw[a1,a2,a3];rfl);have e2:M.one (M.reads b&&if(M.wpc b/8).toNat=p then false else M.lackS (x.Pages.getD (M.wpc b/8).toNat default) false)=0:=(by rw[if_pos a2,Bool.and_false];rfl);omega};{have e1:M.one (M.comes b&&M.lackS (x.Pages.getD (M.wad b/8).toNat default) (M.isSt b))=1:=(by rw[a1,a2,a3];rfl);have e2:M.one (M.comes b&&if(M.wad b/8).toNat=p then false else M.lackS (x.Pages.getD (M.wad b/8).toNat default) (M.isSt b))=0:=(by rw[if_pos a2,Bool.and_false];rfl);omega}
theorem aUz(hs:SmallH h)(l:Live h g x)(hk:M.lacks (M.xExit h.Words x)=true)(ha:(M.answered h g (M.xExit h.Words x)).2=true):
 ∃f,0<=(M.xExit h.Words x).Page/\(M.xExit h.Words x).Page<=7/\0<=f/\f<20/\M.answered h g (M.xExit h.Words x)=(M.inFrame h g (M.xExit h.Words x).Page f,true)/\
  HOk (M.inFrame h g (M.xExit h.Words x).Page f)/\
  (((x.Pages.getD (M.xExit h.Words x).Page.toNat default).Frame=f/\M.many (M.slots h.Guests) f=1)\/M.many (M.slots h.Guests) f=0)/\
  M.cnt (hY x (M.xExit h.Words x).Page.toNat f).Pages (M.vw h.Words x)<M.cnt x.Pages (M.vw h.Words x):=by
 rcases aJw l with⟨hw,t,t0,t1,hpg,hf,hc⟩|⟨hw,t,t0,t1,hpg,hf,hwr,hc,ht,hst⟩|⟨hc,_⟩
 · have ea:M.answered h g (M.xExit h.Words x)=M.hostFill h g (M.xExit h.Words x).Page:=by unfold M.answered;rw[hw];rfl
   rw[ea]at ha ⊢;obtain⟨x',l',p0,p1,hcs⟩:=aLm hs ha;have ex:x'=x:=l'.at_.symm.trans l.at_;subst ex;rcases hcs with⟨_,hne⟩|⟨f,f0,f1,hm,e⟩;{rw[hpg]at hne;exact absurd hf hne}
   · refine⟨f,p0,p1,f0,f1,e,aHn l p0 p1 f0 f1 (by rw[hm,if_neg (aAm l (by omega) hm)]),.inr hm,aXa l (by omega) f0 ?_⟩
     have hlk:∀w,M.lackS (x'.Pages.getD (M.xExit h.Words x').Page.toNat default) w=true:=λw=>by unfold M.lackS;rw[hpg,dT hf];rfl
     rcases hc with⟨h1,h2⟩|⟨h1,h2⟩;{exact .inl ⟨h1,by rw[hpg,h2],hlk _⟩};{exact .inr ⟨h1,by rw[hpg,h2],hlk _⟩}
 · have ea:M.answered h g (M.xExit h.Words x)=M.hostCopy h g (M.xExit h.Words x).Page:=by unfold M.answered;rw[hw];rfl
   rw[ea]at ha ⊢;obtain⟨x',f,l',p0,p1,f0,f1,e,hcs⟩:=aLp hs ha;have ex:x'=x:=l'.at_.symm.trans l.at_;subst ex;have hmf:M.many (M.slots h.Guests) f=if(x'.Pages.getD (M.xExit h.Words x').Page.toNat default).Frame=f then 1 else 0:=by rcases hcs with⟨q,hm⟩|hm;{rw[if_pos q,hm]};{rw[if_neg (aAm l (by omega) hm),hm]}
   refine⟨f,p0,p1,f0,f1,e,aHn l p0 p1 f0 f1 hmf,hcs,aXa l (by omega) f0 (.inr ⟨hc,by rw[hpg,ht],?_⟩)⟩;unfold M.lackS;rw[hpg,hst,hwr];simp
 {rcases hc with hc|⟨hc,_⟩<;>rw[hc]at hk<;>cases hk}
end
structure Rdy (h : DHost) (g : Int) (x : DGuest) (h' : DHost) (x' : DGuest) : Prop where
 small:SmallH h'
 live:Live h' g x'
 views:∀k:Nat,k<3->M.hostView h' (k:Int)=M.hostView h (k:Int)
 same:M.vw h'.Words x'=M.vw h.Words x
 none:M.cnt x'.Pages (M.vw h'.Words x')=0
 dirt:∀p:Nat,(x'.Pages.getD p default).Dirty=(x.Pages.getD p default).Dirty
theorem bDk{x:DGuest}{p q:Nat}{f:Int}(hl:x.Pages.length=8)(hp:p<8):((hY x p f).Pages.getD q default).Dirty=(x.Pages.getD q default).Dirty:=by show((x.Pages.set p _).getD q default).Dirty=_;by_cases e:p=q;{subst e;rw[bM (by rw[lS];omega),List.getElem_set_self]};{simp only[List.getD_eq_getElem?_getD,List.getElem?_set];rw[if_neg e]}
theorem aUa{g:Int}:∀{n:Nat} {h:DHost} {x:DGuest},SmallH h->Live h g x->M.cnt x.Pages (M.vw h.Words x)<=n->M.ready g n h=none\/∃h' x',M.ready g n h=some h'/\Rdy h g x h' x'
 |0,h,x,hs,l,hc=> .inr ⟨h,x,rfl,hs,l,λ_ _=>rfl,rfl,by omega,λ_=>rfl⟩
 |n+1,h,x,hs,l,hc=>by unfold M.ready;rw[aZy l];(cases hk:M.lacks (M.xExit h.Words x)with|false=>refine .inr ⟨h,x,rfl,hs,l,λ_ _=>rfl,rfl,?_,λ_=>rfl⟩;rcases aJw l with⟨hw,_⟩|⟨hw,_⟩|⟨_,hz⟩;{unfold M.lacks at hk;rw[hw]at hk;cases hk};{unfold M.lacks at hk;rw[hw]at hk;cases hk};{exact hz}|true=>rw[cTq];(cases ha:(M.answered h g (M.xExit h.Words x)).2 with|false=>exact .inl rfl|true=>obtain⟨f,p0,p1,f0,f1,e,hok,hm,hlt⟩:=aUz hs l hk ha;have l2:=aLq hs l p0 p1 f0 f1 hok;have hs2:=yI (p:=(M.xExit h.Words x).Page) (f:=f) hs l f0 f1;have hv:∀k:Nat,k<3->M.hostView (M.inFrame h g (M.xExit h.Words x).Page f) (k:Int)=M.hostView h (k:Int):=λk hk=>aJy hs l p0 p1 f0 f1 hok (hm.imp And.left id) hk;have g0:=l.lo;have g1:=l.hi;have hv2:=hv g.toNat (by omega);rw[show((g.toNat:Nat):Int)=g by omega,aCv l,aCv l2]at hv2;have hvw:=congrArg Prod.fst hv2;simp only at hvw;rw[e,cTq];rcases aUa (n:=n) hs2 l2 (by rw[hvw];omega)with hr|⟨h',x',hr,r⟩;{exact .inl hr};{exact .inr ⟨h',x',hr,r.small,r.live,λk hk=>(r.views k hk).trans (hv k hk),r.same.trans hvw,r.none,λp=>(r.dirt p).trans (bDk l.pages (by omega))⟩}))
theorem bIz{ps:List DSlot}{b:DBare}:M.cnt ps b<=2:=by
 have:∀a,M.one a<=1:=λa=>by cases a<;>decide
 unfold M.cnt;have h1:=this (M.reads b&&M.lackS (ps.getD (M.wpc b/8).toNat default) false);have h2:=this (M.comes b&&M.lackS (ps.getD (M.wad b/8).toNat default) (M.isSt b));omega
theorem bIl(b:DBare):M.step b=(bif b.C.Stopped then b
 else bif (M.tick b.C).Waits&&(M.tick b.C).On then M.with_ b (M.trap (M.quiet (M.tick b.C)) b.C.Pc 4 0)
 else bif decide (M.wpc b=-1)then M.with_ b (M.trap (M.tick b.C) b.C.Pc 2 b.C.Pc)
 else M.did (M.with_ b (M.tick b.C)) (M.inst b)):=by
 unfold M.step M.inst M.wpc;rw[aOc,aVx,aOh]
theorem bJs(b:DBare)(i:DIns)(h:i.Op=3\/i.Op=4):M.did b i=M.mdo b i:=by unfold M.did;rcases h with h|h<;>rw[h]<;>rfl
theorem bKb(b:DBare)(i:DIns)(h3:i.Op≠3)(h4:i.Op≠4):M.did b i=bif M.kern i.Op then bif b.C.User then M.with_ b (M.trap b.C b.C.Pc 3 0)else M.kdo b i else M.with_ b (M.plain b.C i):=by unfold M.did;rw[dF h3,dF h4];rfl
theorem bKh(b:DBare)(ho:(M.inst b).Op=3\/(M.inst b).Op=4):M.mdo (M.with_ b (M.tick b.C)) (M.inst b)=
 (bif decide (M.wad b=-1)then M.with_ b (M.trap (M.tick b.C) b.C.Pc 2 (M.adr b))
  else bif M.isSt b then⟨M.go (M.tick b.C),b.Mem.set (M.wad b).toNat (M.reg b.C (M.inst b).A),b.In,b.Out⟩
  else M.with_ b (M.go (M.put (M.tick b.C) (M.inst b).A (b.Mem.getD (M.wad b).toNat default)))):=by
 unfold M.mdo M.wad M.adr M.isSt;simp only[M.with_,aOc,aVx,aOh,bFt];rcases ho with h|h<;>rw[h]<;>rfl
theorem bFo(b:DBare):(M.step b).Mem=bif M.wrote b then b.Mem.set (M.wad b).toNat (M.reg b.C (M.inst b).A)else b.Mem:=by rw[bIl];unfold M.wrote M.comes M.reads M.busy;(cases b.C.Stopped with|true=>rfl|false=>(cases(M.tick b.C).Waits&&(M.tick b.C).On with|true=>rfl|false=>(cases decide (M.wpc b=-1)with|true=>rfl|false=>simp only[cFq,Bool.false_or,bF,Bool.true_and];by_cases ho:(M.inst b).Op=3\/(M.inst b).Op=4;{rw[bJs _ _ ho,bKh b ho];have eo:(decide ((M.inst b).Op=3)||M.isSt b)=true:=(by unfold M.isSt;simpa using ho);rw[eo,Bool.true_and];(cases decide (M.wad b=-1)with|true=>rfl|false=>cases M.isSt b<;>rfl)};{obtain⟨n3,n4⟩:=not_or.1 ho;rw[bKb _ _ n3 n4];have eo:(decide ((M.inst b).Op=3)||M.isSt b)=false:=(by unfold M.isSt;rw[dF n3,dF n4];rfl);rw[eo];simp only[Bool.false_and,cFq];(cases M.kern (M.inst b).Op with|false=>rfl|true=>(cases(M.with_ b (M.tick b.C)).C.User with|true=>rfl|false=>exact bHz _ _))})))
section
variable {h : DHost} {g : Int} {x : DGuest}
theorem aJt{y:DGuest}:∀{gs:List DGuest} {i:Nat},i<gs.length->y.Pages=(gs.getD i default).Pages->M.slots (gs.set i y)=M.slots gs
 |[],i,h,_=>by simp at h
 |z::gs,0,_,h=>by rw[List.set_cons_zero];simp only[M.slots,List.flatMap_cons];rw[h];rfl
 |z::gs,i+1,hi,h=>by rw[List.set_cons_succ];have:=aJt (y:=y) (gs:=gs) (i:=i) (by simpa using hi) h;simp only[M.slots,List.flatMap_cons]at this ⊢;rw[this]
theorem bHu{b:DBare}(h:BOk b):M.coreOk b.C=true/\M.rowOk b.In=true/\M.rowOk b.Out=true:=by have:=aVi.2 h;unfold M.bareOk at this;simp only[bA]at this;exact⟨this.1.1.1,this.1.2,this.2⟩
theorem aQe(l:Live h g x){b:DBare}(hb:BOk b){ps:List DSlot}(h8:ps.length=8)(hp:ps.all M.slotOk=true):M.guestOk ⟨x.Live,b.C,ps,b.In,b.Out⟩=true:=by obtain⟨h1,h2,h3⟩:=bHu hb;unfold M.guestOk;simp only;rw[l.live,h1,h2,h3,hp,dT h8];rfl
theorem bCr(l:Live h g x){y:DGuest}(hy:M.guestOk y=true):(h.Guests.set g.toNat y).all M.guestOk=true:=by rw[List.all_eq_true];intro z hz;rcases List.mem_or_eq_of_mem_set hz with hz|rfl;{exact List.all_eq_true.1 l.ok.all z hz};{exact hy}
theorem sW(l:Live h g x){y:DGuest}{k:Nat}(hk:k<3):(h.Guests.set g.toNat y).getD k default=if(k:Int)=g then y else h.Guests.getD k default:=by have h3:=l.ok.three;have g0:=l.lo;have g1:=l.hi;rw[List.getD_eq_getElem?_getD,List.getElem?_set];by_cases e:(k:Int)=g;{rw[if_pos e,if_pos (by omega),if_pos (by omega)];rfl};{rw[if_neg e,if_neg (by omega),<-List.getD_eq_getElem?_getD]}
theorem bBr(l:Live h g x){b:DBare}(hb:BOk b):HOk (M.withM h g x b):=by have h3:=l.ok.three;have g0:=l.lo;have g1:=l.hi;refine⟨l.ok.len,l.ok.words,by show(h.Guests.set _ _).length=3;rw[lS];exact h3,bCr l (aQe l hb l.pages l.slots),?_⟩;show M.alone (M.slots (h.Guests.set _ _))=true;rw[aJt (by omega) (by rw[l.at_])];exact l.ok.alone
theorem aOd(hs:SmallH h){ws:List Int}{y:DGuest}(hw:ws.length<=1048576)(hy:SmallG y):SmallH ⟨ws,h.Guests.set g.toNat y⟩:=by refine⟨hw,by show(h.Guests.set _ _).length<=_;rw[lS];exact hs.guests,λz hz=>?_⟩;rcases List.mem_or_eq_of_mem_set hz with hz|rfl;{exact hs.all z hz};{exact hy}
theorem aGj{b:DBare}(hb:BOk b){v:Bool}{ps:List DSlot}(h8:ps.length=8):SmallG ⟨v,b.C,ps,b.In,b.Out⟩:=⟨⟨by have:=hb.regs;show b.C.Regs.length<=_;omega⟩,by show ps.length<=_;omega,by have:=hb.inn;show b.In.length<=_;omega,by have:=hb.out;show b.Out.length<=_;omega⟩
theorem aUj(hs:SmallH h)(l:Live h g x){b:DBare}(hb:BOk b):SmallH (M.withM h g x b):=aOd hs hs.words (aGj hb l.pages)
theorem aSb(l:Live h g x){h':DHost}(hok:HOk h'){y:DGuest}(hy:y.Live=true)(he:h'.Guests=h.Guests.set g.toNat y):M.hostView h' g=(M.vw h'.Words y,true):=by have g0:=l.lo;have g1:=l.hi;have e:h'.Guests.getD g.toNat default=y:=(by rw[he,sW l (by omega),if_pos (by omega)]);unfold M.hostView;rw[eS.2 ⟨hok,g0,g1,by rw[e];exact hy⟩,cTq,e];rfl
theorem aLa (l:Live h g x) {h':DHost} (hok:HOk h') {y:DGuest} (he:h'.Guests=h.Guests.set g.toNat y) {k:Nat} (hk:k<3) (hn:(k:Int)≠g)
 (hm:(h.Guests.getD k default).Live=true->M.mem h'.Words (h.Guests.getD k default).Pages=M.mem h.Words (h.Guests.getD k default).Pages):M.hostView h' (k:Int)=M.hostView h (k:Int):=by
 have e:h'.Guests.getD (Int.toNat (k:Int)) default=h.Guests.getD (Int.toNat (k:Int)) default:=(by rw[iT,he,sW l hk,if_neg hn]);unfold M.hostView M.there;rw[e,dN.2 hok,dN.2 l.ok,Bool.true_and];(cases hl:(h.Guests.getD (Int.toNat (k:Int)) default).Live with|false=>rw[Bool.and_false];rfl|true=>rw[iT]at hl ⊢;rw[hm hl])
theorem aAe(hs:SmallH h)(l:Live h g x){p:Nat}(hp:p<8)(hw:(x.Pages.getD p default).Write=true)(hf:(x.Pages.getD p default).Frame≠-1){k q:Nat}(hk:k<3)(hq:q<(h.Guests.getD k default).Pages.length)(hne:(k:Int)≠g\/q≠p):((h.Guests.getD k default).Pages.getD q default).Frame≠(x.Pages.getD p default).Frame:=by intro he;have h3:=l.ok.three;have g0:=l.lo;have g1:=l.hi;have hpl:=l.pages;have hsl:=cO l hp;have ha:=List.all_eq_true.1 l.ok.alone _ (aNq l hp);rw[hw,bT,Bool.false_or,decide_eq_true_eq]at ha;have hm:=aSw l hp (f:=-7) (q:=(x.Pages.getD p default).Frame);rw[if_pos rfl,if_neg (by omega)]at hm;have hz:M.many (M.slots (h.Guests.set g.toNat (hY x p (-7)))) (x.Pages.getD p default).Frame=0:=(by omega);have hpos:0<M.many (M.slots (h.Guests.set g.toNat (hY x p (-7)))) (x.Pages.getD p default).Frame:=(by unfold M.many;refine List.countP_pos_iff.2 ⟨(h.Guests.getD k default).Pages.getD q default,?_,by simpa using he⟩;by_cases e:(k:Int)=g;{have ek:h.Guests.getD k default=x:=(by rw[<-l.at_];congr 1;omega);rw[ek]at hq ⊢;refine List.mem_flatMap.2 ⟨hY x p (-7),?_,?_⟩;{have:=cS (xs:=h.Guests.set g.toNat (hY x p (-7))) (k:=k) (by rw[lS];omega);rwa[sW l hk,if_pos e]at this};{have hqp:q≠p:=hne.resolve_left (λn=>n e);have:(hY x p (-7)).Pages.getD q default=x.Pages.getD q default:=(by show(x.Pages.set p _).getD q default=_;simp only[List.getD_eq_getElem?_getD,List.getElem?_set];rw[if_neg (by omega)]);rw[<-this];exact cS (by show q<(x.Pages.set p _).length;rw[lS];exact hq)}};{refine List.mem_flatMap.2 ⟨h.Guests.getD k default,?_,cS hq⟩;have:=cS (xs:=h.Guests.set g.toNat (hY x p (-7))) (k:=k) (by rw[lS];omega);rwa[sW l hk,if_neg e]at this});omega
theorem bGr{a:Bool}(h:M.one a=0):a=false:=by cases a;rfl;cases h
structure Wr (h : DHost) (x : DGuest) (t : Int) : Prop where
 lo:0<=t
 hi:t<64
 frame:(x.Pages.getD (t/8).toNat default).Frame≠-1
 write:(x.Pages.getD (t/8).toNat default).Write=true
theorem bGf(l:Live h g x)(hc:M.cnt x.Pages (M.vw h.Words x)=0)(hw:M.wrote (M.vw h.Words x)=true):Wr h x (M.wad (M.vw h.Words x))/\0<=(M.inst (M.vw h.Words x)).A/\(M.inst (M.vw h.Words x)).A<4:=by have hb:=aPe l;unfold M.wrote at hw;rw[bA]at hw;obtain⟨h1,h2⟩:=hw;have c2:=bGr (Nat.eq_zero_of_add_eq_zero_left hc);rw[h1,h2,Bool.true_and]at c2;unfold M.lackS at c2;rw[Bool.true_and,Bool.or_eq_false_iff,decide_eq_false_iff_not,Bool.not_eq_false']at c2;unfold M.comes at h1;simp only[bA,Bool.not_eq_true',decide_eq_false_iff_not]at h1;have hwt:=aFj _ _ _ _ _ h1.2;have hr:=h1.1.1;unfold M.reads at hr;simp only[bA,Bool.not_eq_true',decide_eq_false_iff_not]at hr;have hwp:=aFj _ _ _ _ _ hr.2;have hm:=aIf hb hwp.1 hwp.2;have hi:=bDa hm.1 hm.2;simp only[M.insOk,bA,M.inR_iff]at hi;refine⟨⟨hwt.1,hwt.2,c2.1,c2.2⟩,hi.1.2.1,Int.lt_of_le_of_lt hi.1.2.2 (by decide)⟩
theorem aBl{p q:Nat}(hl:x.Pages.length=8)(hp:p<8):(x.Pages.set p (M.dirty x p)).getD q default=if q=p then M.dirty x p else x.Pages.getD q default:=by simp only[List.getD_eq_getElem?_getD,List.getElem?_set];by_cases e:q=p;{subst e;rw[if_pos rfl,if_pos rfl,if_pos (by omega)];rfl};{rw[if_neg (by omega),if_neg e]}
theorem aUq{p q:Nat}(hl:x.Pages.length=8)(hp:p<8):((x.Pages.set p (M.dirty x p)).getD q default).Frame=(x.Pages.getD q default).Frame:=by rw[aBl hl hp];split;{rename_i e;rw[e];rfl};{rfl}
theorem bFk(l:Live h g x){p:Nat}(hp:p<8)(hf:(x.Pages.getD p default).Frame≠-1):(x.Pages.set p (M.dirty x p)).all M.slotOk=true:=by rw[List.all_eq_true];intro s hs;rcases List.mem_or_eq_of_mem_set hs with hs|rfl;{exact List.all_eq_true.1 l.slots s hs};{have:=cO l hp;unfold M.slotOk M.dirty;simp only;rw[dF hf,cFq,dT (by omega),dT this.2];rfl}
theorem bBz(hs:SmallH h)(l:Live h g x){t:Int}(hw:Wr h x t){w:Int}{ps:List DSlot}(hf:∀q,(ps.getD q default).Frame=(x.Pages.getD q default).Frame):
 M.mem (h.Words.set ((x.Pages.getD (t/8).toNat default).Frame*8+t%8).toNat w) ps=(M.mem h.Words x.Pages).set t.toNat w:=by
 have g0:=l.lo;have g1:=l.hi;have hpl:=l.pages;have hlw:=l.ok.len;have t0:=hw.lo;have t1:=hw.hi;have hfr:=hw.frame;have hrt:=cO l (p:=(t/8).toNat) (by omega);refine gW (n:=64) dK (by rw[lS,dK]) λa ha=>?_;rw[eX ha,vY (by rw[dK];omega),eX ha];have hr:=cO l (p:=a/8) (by omega);unfold M.word;rw[hf];by_cases e:t.toNat=a;{rw[if_pos e,show a/8=(t/8).toNat by omega,if_neg (by omega),vY (by omega),if_pos (by omega)]}
 · rw[if_neg e]
   split;{rfl}
   · rw[vY (by omega),if_neg]
     intro e2;have hne:a/8≠(t/8).toNat:=λe3=>by rw[e3]at e2;omega
     have:=aAe hs l (p:=(t/8).toNat) (by omega) hw.write hfr (k:=g.toNat) (q:=a/8) (by omega) (by rw[l.at_];omega) (.inr hne);rw[l.at_]at this;omega
theorem bBc(hs:SmallH h)(l:Live h g x){t:Int}(hw:Wr h x t){w:Int}{k:Nat}(hk:k<3)(hn:(k:Int)≠g)(hl:(h.Guests.getD k default).Live=true):
 M.mem (h.Words.set ((x.Pages.getD (t/8).toNat default).Frame*8+t%8).toNat w) (h.Guests.getD k default).Pages=M.mem h.Words (h.Guests.getD k default).Pages:=by
 have g0:=l.lo;have g1:=l.hi;have hlw:=l.ok.len;have t0:=hw.lo;have t1:=hw.hi;have hfr:=hw.frame;have hrt:=cO l (p:=(t/8).toNat) (by omega);have lk:=dB (g:=(k:Int)) hs (eS.2 ⟨l.ok,by omega,by omega,by rw[iT];exact hl⟩);rw[iT]at lk;have hpk:=lk.pages;refine gW (n:=64) dK dK λa ha=>?_;rw[eX ha,eX ha];have hr:=cO lk (p:=a/8) (by omega);unfold M.word;split;{rfl};{rw[vY (by omega),if_neg];intro e2;exact aAe hs l (p:=(t/8).toNat) (by omega) hw.write hfr (k:=k) (q:=a/8) hk (by omega) (.inl hn) (by omega)}
structure Ran (h : DHost) (g : Int) (x : DGuest) (y : DGuest) : Prop where
 ok:HOk (M.ran h g x)
 small:SmallH (M.ran h g x)
 at_:(M.ran h g x).Guests.getD g.toNat default=y
 view:M.hostView (M.ran h g x) g=(M.step (M.vw h.Words x),true)
 others:∀k:Nat,k<3->(k:Int)≠g->M.hostView (M.ran h g x) (k:Int)=M.hostView h (k:Int)
 pages:y.Pages.length=8
 dirt:∀q:Nat,(x.Pages.getD q default).Dirty=true->(y.Pages.getD q default).Dirty=true
 told:∀a:Nat,a<64->(M.mem h.Words x.Pages).getD a default≠(M.step (M.vw h.Words x)).Mem.getD a default->(y.Pages.getD (a/8) default).Dirty=true
theorem bJo(hs:SmallH h)(l:Live h g x)(hc:M.cnt x.Pages (M.vw h.Words x)=0):∃y,Ran h g x y:=by
 have h3:=l.ok.three;have g0:=l.lo;have g1:=l.hi;have hpl:=l.pages;have hlw:=l.ok.len;have hb:=aPe l;have hst:=bIc hb;have hsm:=bFo (M.vw h.Words x);cases hw:M.wrote (M.vw h.Words x)with
 |false=>rw[hw,cFq]at hsm;have er:M.ran h g x=M.withM h g x (M.step (M.vw h.Words x)):=(by unfold M.ran;rw[hw];rfl);have hok:=bBr l hst;have hvs:=aSb l hok (y:=⟨x.Live,(M.step (M.vw h.Words x)).C,x.Pages,(M.step (M.vw h.Words x)).In,(M.step (M.vw h.Words x)).Out⟩) l.live rfl;refine⟨⟨x.Live,(M.step (M.vw h.Words x)).C,x.Pages,(M.step (M.vw h.Words x)).In,(M.step (M.vw h.Words x)).Out⟩,by rw[er];exact hok,by rw[er];exact aUj hs l hst,?_,?_,λk hk hn=>?_,hpl,λq hq=>hq,λa ha hne=>?_⟩;{rw[er];have:=sW l (y:=⟨x.Live,(M.step (M.vw h.Words x)).C,x.Pages,(M.step (M.vw h.Words x)).In,(M.step (M.vw h.Words x)).Out⟩) (k:=g.toNat) (by omega);rw[if_pos (by omega)]at this;exact this};{rw[er,hvs];have:M.mem h.Words x.Pages=(M.step (M.vw h.Words x)).Mem:=hsm.symm;show((⟨_,M.mem h.Words x.Pages,_,_⟩:DBare),true)=_;rw[this]};{rw[er];exact aLa l hok rfl hk hn λ_=>rfl};{rw[hsm]at hne;exact absurd rfl hne}
 |true=>
  rw[hw,cTq]at hsm;obtain⟨hwr,a0,a1⟩:=bGf l hc hw;have t0:=hwr.lo;have t1:=hwr.hi;have hg:=hb.reg a0 a1;have hrt:=cO l (p:=(M.wad (M.vw h.Words x)/8).toNat) (by omega);have er:M.ran h g x=⟨h.Words.set ((x.Pages.getD (M.wad (M.vw h.Words x)/8).toNat default).Frame*8+M.wad (M.vw h.Words x)%8).toNat (M.reg x.C (M.inst (M.vw h.Words x)).A),h.Guests.set g.toNat ⟨x.Live,(M.step (M.vw h.Words x)).C,x.Pages.set (M.wad (M.vw h.Words x)/8).toNat (M.dirty x (M.wad (M.vw h.Words x)/8).toNat),(M.step (M.vw h.Words x)).In,(M.step (M.vw h.Words x)).Out⟩⟩:=(by unfold M.ran;rw[hw];rfl);generalize hy:(⟨x.Live,(M.step (M.vw h.Words x)).C,x.Pages.set (M.wad (M.vw h.Words x)/8).toNat (M.dirty x (M.wad (M.vw h.Words x)/8).toNat),(M.step (M.vw h.Words x)).In,(M.step (M.vw h.Words x)).Out⟩:DGuest)=y at er;have yl:y.Live=true:=(by rw[<-hy];exact l.live);have yp:y.Pages=x.Pages.set (M.wad (M.vw h.Words x)/8).toNat (M.dirty x (M.wad (M.vw h.Words x)/8).toNat):=(by rw[<-hy]);have yp8:y.Pages.length=8:=(by rw[yp,lS];exact hpl);have yg:M.guestOk y=true:=(by rw[<-hy];exact aQe l hst (by rw[lS];exact hpl) (bFk l (by omega) hwr.frame));have yf:∀q,(y.Pages.getD q default).Frame=(x.Pages.getD q default).Frame:=λq=>by rw[yp];exact aUq hpl (by omega)
  have hmany:∀f,M.many (M.slots (h.Guests.set g.toNat y)) f=M.many (M.slots h.Guests) f:=λf=>by have h1:=aDe (x:=y) (f:=f) (gs:=h.Guests) (i:=g.toNat) (by omega);have h2:=aDk (s':=M.dirty x (M.wad (M.vw h.Words x)/8).toNat) (f:=f) (ps:=x.Pages) (j:=(M.wad (M.vw h.Words x)/8).toNat) (by omega);rw[l.at_,yp]at h1;rw[show(M.dirty x (M.wad (M.vw h.Words x)/8).toNat).Frame=(x.Pages.getD (M.wad (M.vw h.Words x)/8).toNat default).Frame from rfl]at h2;omega
  have hok:HOk (M.ran h g x):=(by rw[er];refine⟨by show(h.Words.set _ _).length=160;rw[lS];exact hlw,yM l.ok.words hg.1 hg.2,by show(h.Guests.set _ _).length=3;rw[lS];exact h3,bCr l yg,?_⟩;have ha:=l.ok.alone;simp only[M.alone,List.all_eq_true,Bool.or_eq_true,Bool.not_eq_true',decide_eq_true_eq]at ha ⊢;intro s hsm2;rw[hmany];rcases aOq hsm2 with h1|h1;{exact ha s h1};{rw[yp]at h1;rcases List.mem_or_eq_of_mem_set h1 with h1|rfl;{refine ha s (List.mem_flatMap.2 ⟨x,?_,h1⟩);rw[<-l.at_];exact cS (by omega)};{have hd:=ha _ (aNq l (p:=(M.wad (M.vw h.Words x)/8).toNat) (by omega));exact hd}});have hat:(M.ran h g x).Guests.getD g.toNat default=y:=(by rw[er];have:=sW l (y:=y) (k:=g.toNat) (by omega);rw[if_pos (by omega)]at this;exact this);refine⟨y,hok,?_,hat,?_,λk hk hn=>?_,yp8,λq hq=>?_,λa ha hne=>?_⟩;{rw[er];refine aOd hs (by rw[lS];exact hs.words) ?_;rw[<-hy];exact aGj hst (by rw[lS];exact hpl)};{rw[aSb l hok yl (by rw[er])];have hm:=bBz hs l hwr (w:=M.reg x.C (M.inst (M.vw h.Words x)).A) yf;have e1:(M.ran h g x).Words=h.Words.set ((x.Pages.getD (M.wad (M.vw h.Words x)/8).toNat default).Frame*8+M.wad (M.vw h.Words x)%8).toNat (M.reg x.C (M.inst (M.vw h.Words x)).A):=(by rw[er]);show((⟨y.C,M.mem (M.ran h g x).Words y.Pages,y.In,y.Out⟩:DBare),true)=_;have hsm2:(M.mem h.Words x.Pages).set (M.wad (M.vw h.Words x)).toNat (M.reg x.C (M.inst (M.vw h.Words x)).A)=(M.step (M.vw h.Words x)).Mem:=hsm.symm;rw[e1,hm,hsm2,<-hy]};{exact aLa l hok (y:=y) (by rw[er]) hk hn λhlv=>by rw[er];exact bBc hs l hwr hk hn hlv};{rw[yp,aBl hpl (by omega)];split;{rfl};{exact hq}};{rw[hsm]at hne;have e:a=(M.wad (M.vw h.Words x)).toNat:=(by refine Classical.byContradiction λe=>hne ?_;show _=((M.mem h.Words x.Pages).set _ _).getD a default;rw[vY (by rw[dK];omega),if_neg (by omega)]);rw[yp,aBl hpl (by omega),if_pos (by omega)];rfl}
end
section
variable {h : DHost} {g : Int} {x : DGuest}
end
section
variable {b : DBare} {op a n : Int}
end
namespace M
end M
theorem KOk.small{b:DBare}(h:KOk b)(hm:b.Mem.length<=1048576):SmallB b:=⟨⟨by have:=h.regs;omega⟩,hm,by have:=h.inn;omega,by have:=h.out;omega⟩
section
variable {h : DHost} {g : Int} {x : DGuest}
theorem aGz(l:Live h g x):gZ h g=some (M.mach x):=by have:=l.ok.three;have:=l.lo;have:=l.hi;unfold gZ;rw[aD ⟨l.lo,by omega⟩,l.at_];rfl
theorem aOs(hs:SmallH h)(l:Live h g x){b:DBare}(hb:SmallB b):eV h g b=some (M.withM h g x b):=by have:=l.ok.three;have:=l.lo;have:=l.hi;unfold eV;rw[aCa hs l.ok,oB,aCb hb,oB,aD ⟨l.lo,by omega⟩,aD ⟨l.lo,by omega⟩,aD ⟨l.lo,by omega⟩,l.at_];have hlt:g.toNat<h.Guests.length:=(by omega);simp only[bN hlt,List.set_set];rfl
end
section
variable {b : DBare} {op a n : Int}
end
section
variable {b : DBare} {op a n : Int}
end
section
variable {h : DHost} {g : Int} {x : DGuest}
end
section
variable {h : DHost} {g : Int} {x : DGuest}
end
section
variable {h : DHost} {g : Int} {x : DGuest}
end
theorem aMv{h:DHost}{g:Int}(hs:SmallH h):
 (M.there h g=false/\M.hostStep h g=(M.zeroH,false))\/(∃x,Live h g x/\M.hostStep h g=(h,false))\/
 (∃x h' x' y,Live h g x/\Rdy h g x h' x'/\Ran h' g x' y/\M.hostStep h g=(M.ran h' g x',true)):=by
 unfold M.hostStep;(cases ht:M.there h g with|false=>exact .inl ⟨rfl,rfl⟩|true=>have l:=dB hs ht;rw[cTq];rcases aUa (n:=8) hs l (by have:=bIz (ps:=(h.Guests.getD g.toNat default).Pages) (b:=M.vw h.Words (h.Guests.getD g.toNat default));omega)with hr|⟨h',x',hr,r⟩;{rw[hr];exact .inr (.inl ⟨_,l,rfl⟩)};{rw[hr];obtain⟨y,hy⟩:=bJo r.small r.live r.none;refine .inr (.inr ⟨_,h',x',y,l,r,hy,?_⟩);simp only[r.live.at_]})
namespace M
noncomputable def turn (s:DHost×Int)(g:Int):DHost×Int:=bif (hostStep s.1 g).2 then((hostStep s.1 g).1,s.2+1)else s
noncomputable def bMx (h:DHost)(ts:List Int):DHost×Int:=ts.foldl turn (h,0)
noncomputable def hostRun (h:DHost)(ts:List Int):DHost×Int:=bif hostOk h then(bif decide (200<ts.length)then(zeroH,0)else bMx h ts)else(zeroH,0)
end M
namespace M
def bIj(xs:List Int)(g:Int):Nat:=xs.countP λx=>decide (x=g)
end M
section
variable {b : DBare} {op a n : Int}
end
section
variable {b : DBare} {op a n : Int}
end
namespace M
def steps:Nat->DBare->DBare
 |0,b=>b
 |n+1,b=>step (steps n b)
end M
section
variable {b : DBare} {n : Int}
end
structure AlongT (h : DHost) (s : DHost × Int) (c : Nat → Nat) : Prop where
 ok:M.hostOk s.1=true
 small:SmallH s.1
 views:∀k:Nat,k<3->M.there h (k:Int)=true->M.hostView s.1 (k:Int)=(M.steps (c k) (M.hostView h (k:Int)).1,true)
 gone:∀k:Nat,k<3->M.there h (k:Int)=false->M.hostView s.1 (k:Int)=M.hostView h (k:Int)/\c k=0
 num:s.2=((c 0+c 1+c 2:Nat):Int)
theorem aXv{h:DHost}{g:Int}:(M.hostView h g).2=M.there h g:=by unfold M.hostView;cases M.there h g<;>rfl
namespace M
def lv(h:DHost)(ts:List Int)(k:Nat):Nat:=bif (h.Guests.getD k default).Live then bIj ts (k:Int)else 0
end M
structure Runs (h : DHost) (ts : List Int) (c : Nat → Nat) : Prop where
 ok:M.hostOk (M.hostRun h ts).1=true
 num:(M.hostRun h ts).2=((c 0+c 1+c 2:Nat):Int)
 most:∀k:Nat,k<3->c k<=M.lv h ts k
 views:∀k:Nat,k<3->M.there h (k:Int)=true->M.hostView (M.hostRun h ts).1 (k:Int)=(M.steps (c k) (M.hostView h (k:Int)).1,true)
 gone:∀k:Nat,k<3->M.there h (k:Int)=false->M.hostView (M.hostRun h ts).1 (k:Int)=M.hostView h (k:Int)
namespace M
def cleanAt(h:DHost)(g:Int):DHost:=⟨h.Words,h.Guests.set g.toNat (mapG clean (h.Guests.getD g.toNat default))⟩
def slotAt(h:DHost)(g:Int)(p:Nat):DSlot:=(h.Guests.getD g.toNat default).Pages.getD p default
def wordsAt(h:DHost)(g:Int)(p:Nat):List Int:=pageWords h.Words (slotAt h g p)
def zeroM:DMove:=⟨⟨[],[]⟩,⟨[],[]⟩,0,0,[]⟩
def sentOk(m:DMove)(p:Nat):Bool:=!(slotAt m.From m.G p).Dirty&&(m.Left.getD p default||decide (wordsAt m.From m.G p=wordsAt m.To m.N p))
noncomputable def moveOk (m:DMove):Bool:=there m.From m.G&&there m.To m.N&&decide (m.Left.length=8)&&(List.range 8).all (sentOk m)
def arrival(x:DGuest):DGuest:=⟨true,x.C,List.replicate 8 nowhere,x.In,x.Out⟩
noncomputable def moveBegin (a b:DHost)(g:Int):DMove×Bool:=bif there a g&&hostOk b&&decide (gone b.Guests≠-1)then
 (⟨cleanAt a g,⟨b.Words,b.Guests.set (gone b.Guests).toNat (arrival (a.Guests.getD g.toNat default))⟩,g,gone b.Guests,List.replicate 8 true⟩,true)
 else(zeroM,false)
def dirtied(ls:List Bool)(ps:List DSlot):List Bool:=(List.range 8).map λp=>ls.getD p default||(ps.getD p default).Dirty
noncomputable def moveStep (m:DMove):DMove×Bool:=bif (hostStep m.From m.G).2 then
 (⟨cleanAt (hostStep m.From m.G).1 m.G,m.To,m.G,m.N,dirtied m.Left ((hostStep m.From m.G).1.Guests.getD m.G.toNat default).Pages⟩,true)
 else(m,false)
noncomputable def framed (h:DHost)(g p:Int)(ws:List Int):DHost×Bool:=bif (hostFill h g p).2 then
 (bif (hostCopy (hostFill h g p).1 g p).2 then
  (⟨over (hostCopy (hostFill h g p).1 g p).1.Words ((slotAt (hostCopy (hostFill h g p).1 g p).1 g p.toNat).Frame.toNat*8) 8 ws,(hostCopy (hostFill h g p).1 g p).1.Guests⟩,true)
 else(zeroH,false))
 else(zeroH,false)
noncomputable def placeW (h:DHost)(g p:Int)(ws:List Int):DHost×Bool:=bif zeros ws then hostGive h g [p]else framed h g p ws
noncomputable def moveSend (m:DMove)(p:Int):DMove×Bool:=bif (placeW m.To m.N p (wordsAt m.From m.G p.toNat)).2 then
 (⟨m.From,(placeW m.To m.N p (wordsAt m.From m.G p.toNat)).1,m.G,m.N,m.Left.set p.toNat false⟩,true)
 else(m,false)
noncomputable def moveDo (m:DMove)(a:DAct):DMove×Bool:=bif moveOk m then
 (bif decide (a.Kind=1)then moveStep m else bif decide (a.Kind=2)&&inR 0 7 a.Page then moveSend m a.Page else(zeroM,false))
 else(zeroM,false)
noncomputable def moveEnd (m:DMove):DHost×DHost×Bool:=bif moveOk m&&m.Left.all (λb=>!b)then
 ((hostDrop m.From m.G).1,withM m.To m.N (m.To.Guests.getD m.N.toNat default) ⟨(m.From.Guests.getD m.G.toNat default).C,[],(m.From.Guests.getD m.G.toNat default).In,(m.From.Guests.getD m.G.toNat default).Out⟩,true)
 else(zeroH,zeroH,false)
end M
section
variable {h : DHost} {i : Nat} {y : DGuest}
theorem aMc (k:HOk h) (hi:i<3) (hy:M.guestOk y=true) (hw:∀s∈y.Pages,s.Write=true->∃t∈(h.Guests.getD i default).Pages,t.Write=true/\t.Frame=s.Frame)
 (hm:∀f,f≠-1->M.many y.Pages f<=M.many (h.Guests.getD i default).Pages f):HOk ⟨h.Words,h.Guests.set i y⟩:=by
 have h3:=k.three;refine⟨k.len,k.words,by rw[lS];exact h3,aEs k.all hy,?_⟩;show M.alone (M.slots (h.Guests.set i y))=true;rw[rU];intro j hj s hs hwr;rw[lS]at hj;have old:∃t∈(h.Guests.getD j default).Pages,t.Write=true/\t.Frame=s.Frame:=(by by_cases e:j=i;{rw[e,wQ (by omega)]at hs;rw[e];exact hw s hs hwr};{rw[rQ (by omega) (λq=>e q.symm)]at hs;exact⟨s,hs,hwr,rfl⟩});obtain⟨t,ht,tw,tf⟩:=old;have ok:=List.all_eq_true.1 (lL (aBt k.all (by omega:j<h.Guests.length))).1 t ht;have hf:t.Frame≠-1:=λe=>by unfold M.slotOk at ok;rw[dT e,cTq,tw]at ok;cases ok
 have h1:=rU.1 k.alone j (by omega) t ht tw;have h2:=oL (y:=y) (f:=t.Frame) (gs:=h.Guests) (i:=i) (by omega);have h4:=hm t.Frame hf;rw[<-tf];omega
theorem xV(hs:SmallH h)(hy:SmallG y):SmallH ⟨h.Words,h.Guests.set i y⟩:=by refine⟨hs.words,by rw[lS];exact hs.guests,λz hz=>?_⟩;rcases List.mem_or_eq_of_mem_set hz with hz|rfl;{exact hs.all z hz};{exact hy}
theorem aAk(k:HOk h)(k2:HOk ⟨h.Words,h.Guests.set i y⟩){j:Nat}(h3:j<3)(hn:j≠i):M.hostView ⟨h.Words,h.Guests.set i y⟩ (j:Int)=M.hostView h (j:Int):=by have:=k.three;exact bCt (dN.2 k) (dN.2 k2) rfl (by rw[iT];exact rQ (by omega) (λe=>hn e.symm))
theorem aHt{g:Int}(hs:SmallH ⟨h.Words,h.Guests.set g.toNat y⟩)(k2:HOk ⟨h.Words,h.Guests.set g.toNat y⟩)(h3:h.Guests.length=3)(g0:0<=g)(g1:g<=2)(hy:y.Live=true):Live ⟨h.Words,h.Guests.set g.toNat y⟩ g y:=by have e:((⟨h.Words,h.Guests.set g.toNat y⟩:DHost).Guests.getD g.toNat default)=y:=wQ (by omega);have:=dB hs (eS.2 ⟨k2,g0,g1,by rw[e];exact hy⟩);rwa[e]at this
end
theorem aKu{f:Int}:∀{ps:List DSlot},M.many (ps.map M.clean) f=M.many ps f
 |[]=>rfl
 |s::ps=>by rw[List.map_cons,eT,eT,aKu];rfl
theorem bGo{s:DSlot}(h:M.slotOk s=true):M.slotOk (M.clean s)=true:=by unfold M.slotOk M.clean at*;by_cases e:s.Frame=-1;{rw[dT e,cTq]at h ⊢;rw[bA]at h;rw[h.1];rfl};{rw[dF e,cFq]at h ⊢;exact h}
section
variable {h : DHost} {g : Int} {x : DGuest}
theorem vK(l:Live h g x):M.cleanAt h g=⟨h.Words,h.Guests.set g.toNat (M.mapG M.clean x)⟩:=by unfold M.cleanAt;rw[l.at_]
theorem aGo(l:Live h g x):HOk (M.cleanAt h g):=by have h3:=l.ok.three;have:=l.lo;have:=l.hi;rw[vK l];refine aMc l.ok (by omega) ((sJ (x:=M.mapG M.clean x) l.live).2 ⟨l.core,by show(x.Pages.map _).length=8;rw[List.length_map];exact l.pages,bCd bGo l.slots,l.inn,l.out⟩) (λs hs hw=>?_) (λf _=>?_);{obtain⟨t,ht,rfl⟩:=List.mem_map.1 (show s∈x.Pages.map M.clean from hs);rw[l.at_];exact⟨t,ht,hw,rfl⟩};{rw[l.at_];exact Nat.le_of_eq aKu}
theorem uP(hs:SmallH h)(l:Live h g x):SmallH (M.cleanAt h g):=by rw[vK l];exact xV hs ⟨l.small.c,by show(x.Pages.map _).length<=_;rw[List.length_map];exact l.small.pages,l.small.i,l.small.o⟩
theorem wC(hs:SmallH h)(l:Live h g x):Live (M.cleanAt h g) g (M.mapG M.clean x):=by have e:=vK l;have k:=aGo l;have s:=uP hs l;rw[e]at k s ⊢;exact aHt s k l.ok.three l.lo l.hi l.live
theorem aHe(l:Live h g x):M.mem (M.cleanAt h g).Words (M.mapG M.clean x).Pages=M.mem h.Words x.Pages:=mem_map (f:=M.clean) (λ_=>rfl) l.pages
theorem aDv(hs:SmallH h)(l:Live h g x){k:Nat}(h3:k<3):M.hostView (M.cleanAt h g) (k:Int)=M.hostView h (k:Int):=by by_cases e:(k:Int)=g;{rw[e,qX (wC hs l),qX l,aHe l];rfl};{have:=l.lo;have k2:=aGo l;rw[vK l]at k2 ⊢;exact aAk l.ok k2 h3 (by omega)}
theorem yY(l:Live h g x){p:Nat}(hp:p<8):M.pageWords h.Words (x.Pages.getD p default)=M.page (M.mem h.Words x.Pages) p:=by have hsl:=cO l hp;refine gW (n:=8) (kN l.ok.len hsl) (oN (by rw[dK];omega)) λa ha=>?_;rw[kQ hsl ha];unfold M.page;rw[lJ ha,eX (by omega),aEv ha]
end
theorem bCm{ws vs:List Int}{ps qs:List DSlot}(h:∀p,p<8->M.page (M.mem ws ps) p=M.page (M.mem vs qs) p):M.mem ws ps=M.mem vs qs:=by refine gW dK dK λa ha=>?_;have:=congrArg (λr=>r.getD (a%8) default) (h (a/8) (by omega));simp only[M.page]at this;rw[lJ (by omega),lJ (by omega),show a/8*8+a%8=a by omega]at this;exact this
structure SmallM (m : DMove) : Prop where
 f:SmallH m.From
 t:SmallH m.To
 l:m.Left.length<=1048576
theorem aUn:SmallM M.zeroM:=⟨⟨by decide,by decide,λg hg=>nomatch hg⟩,⟨by decide,by decide,λg hg=>nomatch hg⟩,by decide⟩
structure MOk (m : DMove) (x y : DGuest) : Prop where
 sf:SmallH m.From
 st:SmallH m.To
 here:Live m.From m.G x
 there:Live m.To m.N y
 len:m.Left.length=8
 clean:∀p,p<8->(x.Pages.getD p default).Dirty=false
 same:∀p,p<8->m.Left.getD p default=false->M.page (M.mem m.From.Words x.Pages) p=M.page (M.mem m.To.Words y.Pages) p
section
variable {m : DMove} {x y : DGuest}
theorem aKt(hs:SmallM m)(h:M.moveOk m=true):MOk m (m.From.Guests.getD m.G.toNat default) (m.To.Guests.getD m.N.toNat default):=by unfold M.moveOk at h;simp only[bA,decide_eq_true_eq,List.all_eq_true,List.mem_range]at h;obtain⟨⟨⟨h1,h2⟩,h3⟩,h4⟩:=h;have l1:=dB hs.f h1;have l2:=dB hs.t h2;refine⟨hs.f,hs.t,l1,l2,h3,λp hp=>?_,λp hp hl=>?_⟩;{have:=h4 p hp;unfold M.sentOk at this;rw[bA,Bool.not_eq_true']at this;exact this.1};{have:=h4 p hp;unfold M.sentOk at this;rw[bA,hl,Bool.false_or,decide_eq_true_eq]at this;have e:=this.2;unfold M.wordsAt M.slotAt at e;rwa[yY l1 hp,yY l2 hp]at e}
theorem MOk.small(k:MOk m x y):SmallM m:=⟨k.sf,k.st,by rw[k.len];omega⟩
theorem MOk.ok(k:MOk m x y):M.moveOk m=true:=by unfold M.moveOk;rw[eS.2 ⟨k.here.ok,k.here.lo,k.here.hi,by rw[k.here.at_];exact k.here.live⟩,eS.2 ⟨k.there.ok,k.there.lo,k.there.hi,by rw[k.there.at_];exact k.there.live⟩,dT k.len,Bool.true_and,Bool.true_and,Bool.true_and,List.all_eq_true];intro p hp;have hp:=List.mem_range.1 hp;unfold M.sentOk M.wordsAt M.slotAt;rw[k.here.at_,k.there.at_,k.clean p hp,bF,Bool.true_and];(cases hl:m.Left.getD p default with|true=>rfl|false=>rw[Bool.false_or,decide_eq_true_eq,yY k.here hp,yY k.there hp];exact k.same p hp hl)
theorem MOk.at_(k:MOk m x y):x=m.From.Guests.getD m.G.toNat default/\y=m.To.Guests.getD m.N.toNat default:=⟨k.here.at_.symm,k.there.at_.symm⟩
end
section
variable {h : DHost} {k : Int}
theorem nL(hs:SmallH h)(h0:0<=k)(h1:k<=1000000000000000):dR h k=some ((dQ h k).1.Words,(dQ h k).1.Guests,(dQ h k).2):=by have:=hs.words;unfold dR;rw[tM (by omega) h0 (by omega),oB,aD (by rw[jP]),aOv hs.guests hs.all (by simp only;omega) (by simp only;omega),oB,aD (by rw[oH])];rfl
theorem tO(hs:SmallH h)(h0:0<=k)(h1:k<=1000000000000000):dS ⟨(dQ h k).1.Words,(dQ h k).1.Guests⟩ k=some (dQ h k).2:=by have:=hs.words;have:=aKr (k:=k+h.Words.length) hs.guests hs.all;unfold dS;simp only[dQ];rw[aGk (by omega) h0 (by omega),oB,dF (by omega),cFq,aOu hs.guests hs.all (by omega) (by omega),oB,dF (by omega),cFq]
theorem lH(hs:SmallH h):k<=(dQ h k).2/\(dQ h k).2<=k+10000000000000:=by have:=hs.words;have:=aKr (k:=k+h.Words.length) hs.guests hs.all;simp only[dQ];omega
end
noncomputable instance:DecidableEq DMove:=λa b=>Classical.propDecidable (a=b)
section
variable {xs ys : List Bool}
theorem aYm(h:xs.length<=1048576):oS xs=some xs:=by
 have key:=uG (xs:=xs) (ys:=List.replicate (Int.toNat (xs.length:Int)) false) (step:=lP xs) (by simp) (λk zs hk hz=>by
  have h1:(k:Int)<(xs.length:Int):=(by omega);simp only[lP,dT h1,cTq,hz];rw[aD ⟨by omega,h1⟩,iT,aD ⟨by omega,h1⟩,bI (by omega) (by omega)]) (λzs hz=>by
  simp only[lP];rw[dF (by omega),cFq])
 unfold oS;rw[aD ⟨by omega,by omega,by omega⟩,key];rfl
theorem aYj(h:xs.length<=9223372036854775806):oR xs ys=some (decide (xs=ys)):=by
 unfold oR;by_cases hl:xs.length=ys.length
 · obtain⟨b,h1,h2⟩:=aMn (xs:=xs) (ys:=ys) (step:=lQ xs ys) (d:=λx y=>x==y) (λx _ y=>beq_iff_eq) hl (λi hi _=>by
    have e1:(i:Int)<(xs.length:Int):=(by omega);simp only[lQ,dT e1,cTq];rw[aD ⟨by omega,e1⟩,aD ⟨by omega,by omega⟩,iT,bI (by omega) (by omega)];cases(xs.getD i default==ys.getD i default)<;>rfl) (by
    simp only[lQ];rw[dF (by omega),cFq])
   rw[h1,dT (by omega)];have e:decide (xs=ys)=b:=(by rw[Bool.eq_iff_iff,decide_eq_true_iff];exact h2.symm);rw[e];cases b<;>rfl
 {rw[dF (by omega),dF (λe=>hl (by rw[e]))];rfl}
theorem aYn{left:Int}(h:xs.length<=9223372036854775807)(h0:0<=left)(h1:left<=1048576):oX xs left=some (if(xs.length:Int)<=left then left-xs.length else-1):=by unfold oX;rw[bI (by omega) (by omega)];by_cases hl:(xs.length:Int)<=left;{rw[dF (by omega),if_pos hl];rfl};{rw[dT (by omega),if_neg hl];rfl}
def mS(_:Bool)(k:Int):Bool×Int:=(decide (Int.tmod k 3=0),k+1)
theorem aHs(x:Bool)(k:Int):k<=(mS x k).2/\(mS x k).2<=k+1:=by simp only[mS];omega
theorem aQs{k:Int}(h:xs.length<=1048576)(h0:0<=k)(h1:k<=4503599627370496):kG xs k=some ((cM mS xs k).1,(cM mS xs k).2):=by have key:=aEa (m:=mS) (C:=1) (B:=9007199254740992) (step:=gO) (xs:=xs) (k:=k) (λx _ k=>aHs x k) h0 (by omega) (by omega) (λzs i q hz hi _ hq hb=>by have e1:(i:Int)<(zs.length:Int):=(by omega);simp only[gO,dT e1,cTq];rw[aD ⟨by omega,e1⟩,iT,hU (z:=q+1) (by omega) (by omega),hU (z:=(i:Int)+1) (by omega) (by omega)];rfl) (λzs q _=>by simp only[gO];rw[dF (by omega),cFq]);unfold kG;rw[key];rfl
theorem aPz{k:Int}(h:xs.length<=1048576)(h0:0<=k)(h1:k<=4503599627370496):mN (cM mS xs k).1 k=some (cM mS xs k).2:=by have key:=aCk (m:=mS) (C:=1) (B:=9007199254740992) (step:=kI) (xs:=xs) (k:=k) (λx _ k=>aHs x k) h0 (by omega) (by omega) (λzs i x q hz hi _ hq hb hg=>by have e1:(i:Int)<(zs.length:Int):=(by omega);simp only[kI,dT e1,cTq];rw[aD ⟨by omega,e1⟩,iT,hg,hU (z:=q+1) (by omega) (by omega),hU (z:=(i:Int)+1) (by omega) (by omega)];simp[mS]) (λzs q _=>by simp only[kI];rw[dF (by omega),cFq]);unfold mN;rw[key];rfl
theorem aNh{k:Int}(h:xs.length<=1048576):k<=(cM mS xs k).2/\(cM mS xs k).2<=k+1048576:=by have:=aBp (m:=mS) (C:=1) (xs:=xs) (k:=k) λx _ k=>aHs x k;omega
end
structure FitM (m : DMove) : Prop where
 f:FitH m.From
 t:FitH m.To
 l:m.Left.length<=9223372036854775807
noncomputable def iA (m:DMove)(k:Int):DMove×Int:=(⟨(dQ m.From k).1,(dQ m.To (dQ m.From k).2).1,m.G,m.N,(cM mS m.Left (dQ m.To (dQ m.From k).2).2).1⟩,(cM mS m.Left (dQ m.To (dQ m.From k).2).2).2)
section
variable {m : DMove} {k : Int}
theorem aNk(hs:SmallM m):eD m=some m:=by unfold eD;rw[xX hs.f,oB,xX hs.t,oB,aYm hs.l];rfl
theorem aDd{n:DMove}(hs:SmallM m):fO m n=some (decide (m=n)):=by have:=hs.l;unfold fO;rw[rN hs.f,oB,rN hs.t,oB,aYj (by omega),oB];obtain⟨a1,a2,a3,a4,a5⟩:=m;obtain⟨b1,b2,b3,b4,b5⟩:=n;simp only[DMove.mk.injEq];by_cases h1:a1=b1<;>by_cases h2:a2=b2<;>by_cases h3:a3=b3<;>by_cases h4:a4=b4<;>by_cases h5:a5=b5<;>simp[*]
theorem aNw{left:Int}(hf:FitM m)(h0:0<=left)(h1:left<=1048576):∃v,kO m left=some v/\(v<0\/(0<=v/\v<=left/\SmallM m)):=by unfold kO;obtain⟨v,hv,hs⟩:=xZ hf.f h0 h1;rw[hv,oB];rcases hs with h|⟨h,hl,hs⟩;{exact⟨-1,by rw[dT h];rfl,.inl (by omega)⟩};{obtain⟨u,hu,ht⟩:=xZ hf.t h (by omega);rw[dF (by omega),cFq,hu,oB];rcases ht with g|⟨g,gl,gs⟩;{exact⟨-1,by rw[dT g];rfl,.inl (by omega)⟩};{rw[dF (by omega),cFq,aYn hf.l g (by omega),oB];by_cases q:(m.Left.length:Int)<=u;{rw[if_pos q];exact⟨u-m.Left.length,by rw[dF (by omega)];rfl,.inr ⟨by omega,by omega,hs,gs,by omega⟩⟩};{rw[if_neg q];exact⟨-1,by rw[dT (by omega)];rfl,.inl (by omega)⟩}}}
theorem aHb(hs:SmallM m)(h0:0<=k)(h1:k<=100000000000000):iO m k=some ((iA m k).1.From.Words,(iA m k).1.From.Guests,(iA m k).1.To.Words,(iA m k).1.To.Guests,(iA m k).1.Left,(iA m k).2):=by have a:=lH (k:=k) hs.f;have b:=lH (k:=(dQ m.From k).2) hs.t;unfold iO;rw[nL hs.f h0 (by omega),oB,aD fM.1,aD fM.2,nL hs.t (by simp only;omega) (by simp only;omega),oB,aD fM.1,aD fM.2,aQs hs.l (by simp only;omega) (by simp only;omega),oB,aD (by rw[oH])];rfl
theorem aDz:(iA m k).1.From.Words.length=m.From.Words.length/\(iA m k).1.From.Guests.length=m.From.Guests.length/\(iA m k).1.To.Words.length=m.To.Words.length/\(iA m k).1.To.Guests.length=m.To.Guests.length/\(iA m k).1.Left.length=m.Left.length:=⟨fM.1,fM.2,fM.1,fM.2,oH⟩
theorem aPw(hs:SmallM m):k<=(iA m k).2/\(iA m k).2<=k+100000000000000:=by have a:=lH (k:=k) hs.f;have b:=lH (k:=(dQ m.From k).2) hs.t;have c:=aNh (k:=(dQ m.To (dQ m.From k).2).2) hs.l;simp only[iA];omega
theorem aUk(hs:SmallM m)(h0:0<=k)(h1:k<=100000000000000):iS ⟨⟨(iA m k).1.From.Words,(iA m k).1.From.Guests⟩,⟨(iA m k).1.To.Words,(iA m k).1.To.Guests⟩,m.G,m.N,(iA m k).1.Left⟩ k=some (iA m k).2:=by have a:=lH (k:=k) hs.f;have b:=lH (k:=(dQ m.From k).2) hs.t;have c:=aNh (k:=(dQ m.To (dQ m.From k).2).2) hs.l;unfold iS;simp only[iA];rw[tO hs.f h0 (by omega),oB,dF (by omega),cFq,tO hs.t (by omega) (by omega),oB,dF (by omega),cFq,aPz hs.l (by omega) (by omega),oB,dF (by omega),cFq]
end
theorem aUh{a b:List Int}(h:a.length=b.length)(h8:a.length<=1048576):mY a b=some (decide (a=b)):=by
 unfold mY
 have key:=aNy (n:=a.length) (step:=kK a b) (λk=>k) (λi=>decide (a.getD i default=b.getD i default)) (.go ()) (.out false) (λi hi=>by
  simp only[kK,iT];rw[dT (p:=(i:Int)<_) (by omega),cTq,aD ⟨by omega,by omega⟩,aD ⟨by omega,by omega⟩,bI (by omega) (by omega)];cases decide (a.getD i default=b.getD i default)<;>rfl) (by
  simp only[kK];rw[dF (by omega),cFq])
 rw[key]
 have e:(List.range a.length).all (λi=>decide (a.getD i default=b.getD i default))=decide (a=b):=by
  apply dbe;rw[List.all_eq_true,decide_eq_true_eq];constructor;{intro hh;exact gW rfl h.symm λi hi=>of_decide_eq_true (hh i (List.mem_range.2 hi))}
  · rintro rfl i _;exact dT rfl
 rw[e];cases decide (a=b)<;>rfl
section
variable {h : DHost} {g : Int} {x : DGuest}
theorem vL(l:Live h g x){p:Nat}:M.wordsAt h g p=M.pageWords h.Words (x.Pages.getD p default):=by unfold M.wordsAt M.slotAt;rw[l.at_]
theorem qB(l:Live h g x){p:Nat}(hp:p<8):(M.wordsAt h g p).length=8:=by rw[vL l];exact kN l.ok.len (cO l hp)
theorem aUv(l:Live h g x){p a:Nat}(hp:p<8)(ha:a<8):(M.wordsAt h g p).getD a default=M.word h.Words x.Pages (p*8+a):=by rw[vL l,kQ (cO l hp) ha,aEv ha]
theorem bDf(l:Live h g x){p:Nat}(hp:p<8):lY h g (p:Int)=some (M.wordsAt h g p):=by
 have hw:=qB l hp;unfold lY
 have key:=jR (n:=8) (step:=jG h g (p:Int)) (λk=>((M.wordsAt h g p).take k,(k:Int))) (λ_=>true) (JO.go (M.wordsAt h g p)) (JO.go (M.wordsAt h g p)) (λk hk _=>by
  simp only[jG];rw[dT (p:=(k:Int)<8) (by omega),cTq,bI (z:=(p:Int)*8) (by omega) (by omega),bI (z:=(p:Int)*8+(k:Int)) (by omega) (by omega),show(p:Int)*8+(k:Int)=((p*8+k:Nat):Int) by omega,bEg l (by omega),oB];have e:(M.wordsAt h g p).take (k+1)=(M.wordsAt h g p).take k++[M.word h.Words x.Pages (p*8+k)]:=(by rw[List.take_succ_eq_append_getElem (by omega),<-aUv l hp hk,bM (by omega)]);rw[aD ⟨by simp;omega,by simp;omega⟩,bI (by omega) (by omega),<-e];rfl) (λ_=>by
  simp only[jG];rw[List.take_of_length_le (by omega)];rfl)
 rw[Bool.cond_self,List.take_zero]at key;show Option.bind (Option.bind (iter (jG h g (p:Int)) ([],((0:Nat):Int))) LO.val) _=_;rw[key];rfl
end
section
variable {m : DMove}
theorem bEi{x y:DGuest}(l:Live m.From m.G x)(k:Live m.To m.N y){p:Nat}(hp:p<8):qM m (p:Int)=some (decide (M.wordsAt m.From m.G p=M.wordsAt m.To m.N p)):=by have l3:=l.ok.three;have:=l.lo;have:=l.hi;have lp:=l.pages;have k3:=k.ok.three;have:=k.lo;have:=k.hi;have kp:=k.pages;have w1:=qB l hp;have w2:=qB k hp;unfold qM;simp only[l.at_,k.at_,iT];rw[aD ⟨by omega,by omega⟩,aD ⟨by omega,by omega⟩,aD ⟨by omega,by omega⟩,aD ⟨by omega,by omega⟩];show Option.bind (fR m.From.Words (x.Pages.getD p default)) _=_;rw[aGr l.ok.len (cO l hp),oB];show Option.bind (fR m.To.Words (y.Pages.getD p default)) _=_;rw[aGr k.ok.len (cO k hp),oB,<-vL l,<-vL k,aUh (by omega) (by omega)];rfl
theorem aRv(hs:SmallM m):nK m=some (M.moveOk m):=by
 unfold nK M.moveOk;rw[vC hs.f,oB];cases h1:M.there m.From m.G with
 |false=>rfl
 |true=>
  rw[bT,cFq,vC hs.t,oB];cases h2:M.there m.To m.N with
  |false=>rfl
  |true=>
   rw[bT,cFq];by_cases h3:m.Left.length=8
   · have l:=dB hs.f h1;have k:=dB hs.t h2
     have l3:=l.ok.three;have:=l.lo;have:=l.hi;have lp:=l.pages;rw[dT h3,dT (by omega),bT,cFq,aD ⟨by omega,by omega⟩]
     have key:=jR (n:=8) (step:=mL m) (λp=>(p:Int)) (M.sentOk m) (JO.go ()) (.out false) (λp hp _=>by
      simp only[mL,iT];rw[dT (p:=(p:Int)<_) (by omega),cTq,aD ⟨by omega,by omega⟩];unfold M.sentOk M.slotAt;cases((m.From.Guests.getD m.G.toNat default).Pages.getD p default).Dirty with
      |true=>rfl
      |false=>
       rw[cFq,aD ⟨by omega,by omega⟩];cases m.Left.getD p default with
       |true=>simp only[bT,cFq,oB,JO.run,rA];rw[bI (by omega) (by omega)];rfl
       |false=>
        rw[bF,cTq,bEi l k hp,oB];cases decide (M.wordsAt m.From m.G p=M.wordsAt m.To m.N p)with
        |false=>rfl
        |true=>simp only[bT,cFq,oB,JO.run,rA];rw[bI (by omega) (by omega)];rfl) (λ_=>by
      simp only[mL];rw[dF (by omega)];rfl)
     rw[show(0:Int)=((0:Nat):Int)from rfl,key];cases(List.range 8).all (M.sentOk m)<;>rfl
   {rw[dF h3,dF (by omega)];rfl}
theorem aSe(hs:SmallM m):nA m=some (M.moveOk m):=by
 unfold nA M.moveOk;rw[aQp hs.f,oB];cases h1:M.there m.From m.G with
 |false=>rfl
 |true=>
  rw[bT,cFq,aQp hs.t,oB];cases h2:M.there m.To m.N with
  |false=>rfl
  |true=>
   rw[bT,cFq];by_cases h3:m.Left.length=8
   · have l:=dB hs.f h1;have k:=dB hs.t h2
     have l3:=l.ok.three;have:=l.lo;have:=l.hi;have lp:=l.pages;rw[dT h3,dT (by omega),bT,cFq]
     have key:=jR (n:=8) (step:=mO m) (λp=>(p:Int)) (M.sentOk m) (JO.go ()) (.out false) (λp hp _=>by
      have w1:=qB l hp;have w2:=qB k hp;simp only[mO,iT];rw[dT (p:=(p:Int)<_) (by omega),cTq,aD ⟨by omega,by omega⟩,aD ⟨by omega,by omega⟩];unfold M.sentOk M.slotAt;cases((m.From.Guests.getD m.G.toNat default).Pages.getD p default).Dirty with
      |true=>rfl
      |false=>
       rw[cFq,bDf l hp,oB,bDf k hp,oB]
       have inner:iter (hT m (p:Int) (M.wordsAt m.From m.G p) (M.wordsAt m.To m.N p)) 0=some (.ret (bif m.Left.getD p default||decide (M.wordsAt m.From m.G p=M.wordsAt m.To m.N p)then .go ()else .out (.ret (.out false)))):=by
        cases hl:m.Left.getD p default with
        |true=>rw[dH];simp only[hT,iT,hl];rw[dT (p:=(0:Int)<8) (by omega),cTq,aD ⟨by omega,by omega⟩];rfl
        |false=>
         have ik:=jR (n:=8) (step:=hT m (p:Int) (M.wordsAt m.From m.G p) (M.wordsAt m.To m.N p)) (λa=>(a:Int)) (λa=>decide ((M.wordsAt m.From m.G p).getD a default=(M.wordsAt m.To m.N p).getD a default)) (JO.go ()) (.out (.ret (.out false))) (λa ha _=>by
          simp only[hT,iT,hl];rw[dT (p:=(a:Int)<8) (by omega),cTq,aD ⟨by omega,by omega⟩,bF,cTq,aD ⟨by omega,by omega⟩,aD ⟨by omega,by omega⟩,bI (by omega) (by omega)];cases decide ((M.wordsAt m.From m.G p).getD a default=(M.wordsAt m.To m.N p).getD a default)<;>rfl) (λ_=>by
          simp only[hT];rfl)
         have e:((List.range 8).all λa=>decide ((M.wordsAt m.From m.G p).getD a default=(M.wordsAt m.To m.N p).getD a default))=decide (M.wordsAt m.From m.G p=M.wordsAt m.To m.N p):=(by apply dbe;rw[List.all_eq_true,decide_eq_true_eq];constructor;{intro hh;exact gW w1 w2 λi hi=>of_decide_eq_true (hh i (List.mem_range.2 hi))};{intro e i _;rw[e];exact dT rfl});rw[e]at ik;rw[Bool.false_or];exact ik
       rw[inner];cases(m.Left.getD p default||decide (M.wordsAt m.From m.G p=M.wordsAt m.To m.N p))with
       |false=>rfl
       |true=>simp only[cTq,oB,LO.val,JO.run,wK];rw[bI (by omega) (by omega)];rfl) (λ_=>by
      simp only[mO];rfl)
     rw[show(0:Int)=((0:Nat):Int)from rfl,key];cases(List.range 8).all (M.sentOk m)<;>rfl
   {rw[dF h3,dF (by omega)];rfl}
theorem bAa{x y:DGuest}(k:MOk m x y):pJ m=some m:=by have:=k.len;unfold pJ;rw[aKl k.sf k.here.ok.all,oB,aKl k.st k.there.ok.all,oB,aD ⟨by omega,by omega⟩]
end
theorem aHl{g:DGuest}(hs:SmallG g)(h:g.Live=true\/g=M.noGuest):dU g=some g:=by rcases h with hl|rfl;{unfold dU;rw[hl,bT,cFq,fW hs.c.regs,tC hs.pages,fW hs.i,fW hs.o];simp only[oB];rw[<-hl]};{rfl}
theorem aJk{h:DHost}(hs:SmallH h)(hl:∀g∈h.Guests,g.Live=true\/g=M.noGuest):eH h=some h:=by
 unfold eH fL;have hg:=hs.guests;rw[fW hs.words,oB,aD ⟨by omega,by omega,by omega⟩]
 have key:=uG (xs:=h.Guests) (ys:=List.replicate (Int.toNat (h.Guests.length:Int)) M.noGuest) (step:=cX h.Guests) (by simp) (λk zs hk hz=>by
  have h1:(k:Int)<(h.Guests.length:Int):=(by omega);simp only[cX,dT h1,cTq];rw[aD ⟨by omega,h1⟩,iT];show Option.bind (dU (h.Guests.getD k default)) _=_;rw[aHl (hs.all _ (cS hk)) (hl _ (cS hk)),oB,aD ⟨by omega,by omega⟩,bI (by omega) (by omega)]) (λzs hz=>by
  simp only[cX];rw[dF (by omega),cFq])
 show Option.bind (Option.bind (Option.bind (iter (cX h.Guests) (List.replicate (Int.toNat (h.Guests.length:Int)) M.noGuest,0)) LO.val) _) _=_;rw[key];rfl
theorem aZl:eP=some (List.replicate 8 M.nowhere):=by
 unfold eP
 have key:=jR (n:=8) (step:=dO) (λk=>(up (λ_=>M.nowhere) k (List.replicate 8 ⟨0,false,false⟩),(k:Int))) (λ_=>true) (JO.go (List.replicate 8 M.nowhere)) (JO.go (List.replicate 8 M.nowhere)) (λk hk _=>by
  have hl:=zR (f:=λ_=>M.nowhere) (k:=k) (xs:=List.replicate 8 (⟨0,false,false⟩:DSlot));rw[List.length_replicate]at hl;have hp:=aDf (f:=λ_=>M.nowhere) (k:=k) (xs:=List.replicate 8 (⟨0,false,false⟩:DSlot)) (by rw[List.length_replicate];omega);simp only[dO,iT];rw[dT (p:=(k:Int)<_) (by rw[List.length_replicate];omega),cTq,aD ⟨by omega,by omega⟩,bI (by omega) (by omega),cTq,<-hp];rfl) (λ_=>by
  simp only[dO];rw[aDh (by rw[List.length_replicate];omega)];rfl)
 rw[Bool.cond_self]at key;have e:up (λ_=>M.nowhere) 0 (List.replicate 8 (⟨0,false,false⟩:DSlot))=List.replicate 8 ⟨0,false,false⟩:=yV;rw[e]at key;show Option.bind (Option.bind (iter dO (List.replicate 8 ⟨0,false,false⟩,((0:Nat):Int))) LO.val) _=_;rw[key];rfl
theorem bBa:mF=some (List.replicate 8 true):=by
 unfold mF
 have key:=jR (n:=8) (step:=jE) (λk=>(up (λ_=>true) k (List.replicate 8 false),(k:Int))) (λ_=>true) (JO.go (List.replicate 8 true)) (JO.go (List.replicate 8 true)) (λk hk _=>by
  have hl:=zR (f:=λ_=>true) (k:=k) (xs:=List.replicate 8 false);rw[List.length_replicate]at hl;have hp:=aDf (f:=λ_=>true) (k:=k) (xs:=List.replicate 8 false) (by rw[List.length_replicate];omega);simp only[jE,iT];rw[dT (p:=(k:Int)<_) (by rw[List.length_replicate];omega),cTq,aD ⟨by omega,by omega⟩,bI (by omega) (by omega),cTq,<-hp];rfl) (λ_=>by
  simp only[jE];rw[aDh (by rw[List.length_replicate];omega)];rfl)
 rw[Bool.cond_self]at key;have e:up (λ_=>true) 0 (List.replicate 8 false)=List.replicate 8 false:=yV;rw[e]at key;show Option.bind (Option.bind (iter jE (List.replicate 8 false,((0:Nat):Int))) LO.val) _=_;rw[key];rfl
section
variable {a b : DHost} {g : Int}
theorem aUf(ha:SmallH a)(hb:SmallH b):fT a b g=some (M.moveBegin a b g):=by
 unfold fT M.moveBegin;rw[vC ha,oB];cases ht:M.there a g with
 |false=>rfl
 |true=>
  have l:=dB ha ht;have l3:=l.ok.three;have:=l.lo;have:=l.hi;have lp:=l.pages;rw[bT,cFq,aTj hb,oB,Bool.true_and];cases ho:M.hostOk b with
  |false=>rfl
  |true=>
   have kb:=dN.1 ho;have b3:=kb.three;have hr:=aJu b.Guests;rw[bT,cFq,aUs b3,oB,Bool.true_and];by_cases e:M.gone b.Guests=-1;{rw[dT e,dF (by simp[e])];rfl}
   · have sx:=l.small
     rw[dF e,dT e,cFq,cTq,aCa ha l.ok,oB,aD ⟨by omega,by omega⟩,aXw (by omega),oB,aD ⟨by omega,by omega⟩,aZl,oB,aGu hb kb (by omega) (by omega),oB,aGz l,oB]
     have gl:∀y:DGuest,y.Live=true->∀z∈b.Guests.set (M.gone b.Guests).toNat y,z.Live=true\/z=M.noGuest:=λy hy z hz=>by
      rcases List.mem_or_eq_of_mem_set hz with hz|rfl
      · cases hl:z.Live with
        |true=>exact .inl rfl
        |false=>exact .inr (aMj (List.all_eq_true.1 kb.all z hz) hl)
      {exact .inl hy}
     have sg:∀y:DGuest,SmallG y->SmallH ⟨b.Words,b.Guests.set (M.gone b.Guests).toNat y⟩:=λy hy=>xV hb hy;unfold eV;rw[aJk (sg _ ⟨⟨by decide⟩,by decide,by decide,by decide⟩) (gl _ rfl),oB,aCb ⟨sx.c,by show([]:List Int).length<=_;simp,sx.i,sx.o⟩,oB,aD ⟨by omega,by simp;omega⟩,aD ⟨by omega,by simp;omega⟩,aD ⟨by omega,by simp;omega⟩,oB,bBa,oB];have hlt:(M.gone b.Guests).toNat<b.Guests.length:=(by omega);simp only[bN hlt,List.set_set];rfl
theorem bIe(hk:HOk b):iter (fJ b) (-1,2)=some (.ret (.go (M.gone b.Guests))):=by
 have h3:=hk.three
 have st:∀(i:Nat) (c:Int),i<3->fJ b (c,(i:Int))=some (.next (bif (b.Guests.getD i default).Live then c else(i:Int),(i:Int)-1)):=λi c hi=>by
  simp only[fJ,iT];rw[dT (p:=(0:Int)<=(i:Int)) (by omega),cTq,aD ⟨by omega,by omega⟩];cases(b.Guests.getD i default).Live
  all_goals
   simp only[bT,bF,cTq,cFq,oB,JO.run,rY];rw[bI (by omega) (by omega)]
 have sn:∀c:Int,fJ b (c,-1)=some (.ret (.go c)):=λc=>by simp only[fJ];rfl
 rw[show(2:Int)=((2:Nat):Int)from rfl,dH,st 2 _ (by omega)];simp only;rw[show((2:Nat):Int)-1=((1:Nat):Int)from rfl,dH,st 1 _ (by omega)];simp only;rw[show((1:Nat):Int)-1=((0:Nat):Int)from rfl,dH,st 0 _ (by omega)];simp only;rw[show((0:Nat):Int)-1=-1 from rfl,dH,sn];unfold M.gone;cases(b.Guests.getD 0 default).Live<;>cases(b.Guests.getD 1 default).Live<;>cases(b.Guests.getD 2 default).Live<;>rfl
theorem bKs{T:Type}{c:T}{k:Nat}:List.replicate k c++[c]=List.replicate (k+1) c:=by rw[List.replicate_succ']
theorem aUp{x:DGuest}(l:Live a g x):iter (gP g) (a.Guests,[],x.Pages,0)=some (.ret (.go (a.Guests.set g.toNat (M.mapG M.clean x),List.replicate 8 true,List.replicate 8 M.nowhere))):=by
 have h3:=l.ok.three;have:=l.lo;have:=l.hi;have hp:=l.pages
 have key:=jR (n:=8) (step:=gP g) (λk=>(a.Guests.set g.toNat (M.upG M.clean k x),List.replicate k true,up (λ_=>M.nowhere) k x.Pages,(k:Int))) (λ_=>true) (JO.go (a.Guests.set g.toNat (M.mapG M.clean x),List.replicate 8 true,List.replicate 8 M.nowhere)) (JO.go (a.Guests.set g.toNat (M.mapG M.clean x),List.replicate 8 true,List.replicate 8 M.nowhere)) (λk hk _=>by
  have hl:=zR (f:=M.clean) (k:=k) (xs:=x.Pages);have hl2:=zR (f:=λ_=>M.nowhere) (k:=k) (xs:=x.Pages);have hpl:(M.upG M.clean k x).Pages.length=8:=(by show(up M.clean k x.Pages).length=8;omega);have hs:=aDf (f:=M.clean) (k:=k) (xs:=x.Pages) (by omega);have hs2:=aDf (f:=λ_=>M.nowhere) (k:=k) (xs:=x.Pages) (by omega);have hq:=bHe (f:=M.clean) (k:=k) (xs:=x.Pages) (by omega);have e1:(a.Guests.set g.toNat (M.upG M.clean k x)).getD g.toNat default=M.upG M.clean k x:=wQ (by omega);simp only[gP,iT,e1];rw[dT (p:=(k:Int)<8) (by omega),cTq,aD ⟨by omega,by rw[lS];omega⟩,aD ⟨by omega,by omega⟩,aD ⟨by omega,by omega⟩,aD ⟨by simp;omega,by simp;omega⟩,bI (by omega) (by omega),cTq,List.set_set,bKs];show some (LO.next (a.Guests.set g.toNat (⟨x.Live,x.C,(up M.clean k x.Pages).set k ⟨((up M.clean k x.Pages).getD k default).Frame,((up M.clean k x.Pages).getD k default).Write,false⟩,x.In,x.Out⟩:DGuest),List.replicate (k+1) true,(up (λ_=>M.nowhere) k x.Pages).set k M.nowhere,(k:Int)+1))=some (LO.next (a.Guests.set g.toNat (⟨x.Live,x.C,up M.clean (k+1) x.Pages,x.In,x.Out⟩:DGuest),List.replicate (k+1) true,up (λ_=>M.nowhere) (k+1) x.Pages,((k+1:Nat):Int)));rw[hq,<-hs,<-hs2];rfl) (λ_=>by
  simp only[gP];rw[bIb (by omega),aDh (by omega)];have:x.Pages.map (λ_=>M.nowhere)=List.replicate 8 M.nowhere:=(by rw[List.map_const',hp]);rw[this];rfl)
 rw[Bool.cond_self]at key;have e0:a.Guests.set g.toNat (M.upG M.clean 0 x)=a.Guests:=(by rw[bDz,<-l.at_];exact uT);have e1:up (λ_=>M.nowhere) 0 x.Pages=x.Pages:=yV;rw[e0,e1]at key;exact key
theorem aUt(ha:SmallH a)(hb:SmallH b):kB a b g=some (M.moveBegin a b g):=by unfold kB M.moveBegin;rw[aQp ha,oB];(cases ht:M.there a g with|false=>rfl|true=>have l:=dB ha ht;have l3:=l.ok.three;have:=l.lo;have:=l.hi;have lp:=l.pages;rw[bT,cFq,aTr hb,oB,Bool.true_and];(cases ho:M.hostOk b with|false=>rfl|true=>have kb:=dN.1 ho;have b3:=kb.three;have hr:=aJu b.Guests;rw[bT,cFq,bIe kb,Bool.true_and];simp only[oB,LO.val,JO.run,sO];by_cases e:M.gone b.Guests=-1;{rw[dT (p:=M.gone b.Guests<0) (by omega),dF (by simp[e])];rfl};{have gx:=aBt l.ok.all (i:=g.toNat) (by omega);rw[dF (p:=M.gone b.Guests<0) (by omega),dT e,cFq,cTq,aKl ha l.ok.all,oB,aKl hb kb.all,oB,aD ⟨by omega,by omega⟩];show Option.bind (fB (a.Guests.getD g.toNat default)) _=_;rw[aMy l.small gx,oB,aUp l];simp only[oB,LO.val,JO.run,sP];rw[aD ⟨by omega,by omega⟩];unfold M.arrival;rw[l.live];rfl}))
end
theorem bBk{ls:List Bool}(h:ls.length<=1048576):pK ls=some (((List.range ls.length).filter λp=>ls.getD p default).map λp:Nat=>(⟨2,(p:Int)⟩:DAct)):=by
 unfold pK
 have key:=jR (n:=ls.length) (step:=jF ls) (λk=>(((List.range k).filter λp=>ls.getD p default).map λp:Nat=>(⟨2,(p:Int)⟩:DAct),(k:Int))) (λ_=>true) (JO.go (((List.range ls.length).filter λp=>ls.getD p default).map λp:Nat=>(⟨2,(p:Int)⟩:DAct))) (JO.go []) (λk hk _=>by
  have hl:(((List.range k).filter λp=>ls.getD p default).map λp:Nat=>(⟨2,(p:Int)⟩:DAct)).length<=k:=(by rw[List.length_map];exact Nat.le_trans (List.length_filter_le _ _) (by rw[List.length_range];exact Nat.le_refl _));have er:(((List.range (k+1)).filter λp=>ls.getD p default).map λp:Nat=>(⟨2,(p:Int)⟩:DAct))=(((List.range k).filter λp=>ls.getD p default).map λp:Nat=>(⟨2,(p:Int)⟩:DAct))++(bif ls.getD k default then[⟨2,(k:Int)⟩]else[]):=(by rw[List.range_succ,List.filter_append,List.map_append];(cases hq:ls.getD k default with|true=>rw[List.filter_cons_of_pos (p:=λp=>ls.getD p default) hq];rfl|false=>rw[List.filter_cons_of_neg (p:=λp=>ls.getD p default) (by rw[hq];simp)];simp));simp only[jF,iT];rw[dT (p:=(k:Int)<_) (by omega),cTq,aD ⟨by omega,by omega⟩,er];cases ls.getD k default with
  |true=>rw[cTq,aD ⟨by simp only[List.length_cons,List.length_nil];omega,by simp only[List.length_cons,List.length_nil];omega⟩];simp only[oB,JO.run,pM,cTq];rw[bI (by omega) (by omega)];rfl
  |false=>simp only[cFq,oB,JO.run,pM,cTq,List.append_nil];rw[bI (by omega) (by omega)];rfl) (λ_=>by
  simp only[jF];rw[dF (by omega),cFq])
 have e:((List.range ls.length).all λ_=>true)=true:=(by simp);rw[e]at key;show Option.bind (Option.bind (iter (jF ls) ([],((0:Nat):Int))) LO.val) _=_;rw[show(([]:List DAct),((0:Nat):Int))=((((List.range 0).filter λp=>ls.getD p default).map λp:Nat=>(⟨2,(p:Int)⟩:DAct)),((0:Nat):Int))from rfl,key];rfl
theorem aYw{ls:List Bool}:decide ((0:Int)<(((((List.range ls.length).filter λp=>ls.getD p default).map λp:Nat=>(⟨2,(p:Int)⟩:DAct)).length:Nat):Int))=!(ls.all λb=>!b):=by
 cases ha:ls.all λb=>!b with
 |true=>have:((List.range ls.length).filter λp=>ls.getD p default)=[]:=(by rw[List.filter_eq_nil_iff];intro p hp;have:=List.all_eq_true.1 ha _ (cS (List.mem_range.1 hp));rw[Bool.not_eq_true']at this;rw[this];simp);rw[this];rfl
 |false=>rw[List.all_eq_false]at ha;obtain⟨b,hb,hn⟩:=ha;obtain⟨i,hi,e⟩:=List.getElem_of_mem hb;have hm:i∈((List.range ls.length).filter λp=>ls.getD p default):=(by rw[List.mem_filter];refine⟨List.mem_range.2 hi,?_⟩;rw[bM hi,e];(cases b with|true=>rfl|false=>exact absurd rfl hn));have:0<(((List.range ls.length).filter λp=>ls.getD p default).map λp:Nat=>(⟨2,(p:Int)⟩:DAct)).length:=(by rw[List.length_map];exact List.length_pos_of_mem hm);rw[dT (by omega)];rfl
section
variable {m : DMove}
theorem bDg(hs:SmallM m):jW m=some (M.moveEnd m):=by
 unfold jW M.moveEnd;rw[aRv hs,oB];cases ho:M.moveOk m with
 |false=>rfl
 |true=>
  have k:=aKt hs ho;have l:=k.here;have t:=k.there;have sx:=l.small;rw[bT,cFq,bBk hs.l,oB,aYw,Bool.true_and];cases hl:m.Left.all (λb=>!b)with
  |false=>rfl
  |true=>rw[bT,cFq,cTq,aZz hs.f,oB,aGz l,oB,aOs hs.t t ⟨sx.c,by show([]:List Int).length<=_;simp,sx.i,sx.o⟩];rfl
theorem bBu(hs:SmallM m):mA m=some (M.moveEnd m):=by
 unfold mA M.moveEnd;rw[aSe hs,oB];cases ho:M.moveOk m with
 |false=>rfl
 |true=>
  have k:=aKt hs ho;have l:=k.here;have t:=k.there;have l3:=l.ok.three;have:=l.lo;have:=l.hi;have lp:=l.pages;have t3:=t.ok.three;have:=t.lo;have:=t.hi;have tp:=t.pages;have h8:=k.len;have gx:=aBt l.ok.all (i:=m.G.toNat) (by omega);rw[bT,cFq,Bool.true_and]
  have key:=jR (n:=m.Left.length) (step:=lW m) (λp=>(p:Int)) (λp=>!(m.Left.getD p default)) (JO.go ()) (.out (⟨[],[]⟩,⟨[],[]⟩,false)) (λp hp _=>by
   simp only[lW,iT];rw[dT (p:=(p:Int)<8) (by omega),cTq,aD ⟨by omega,by omega⟩,bI (by omega) (by omega)];cases m.Left.getD p default<;>rfl) (λ_=>by
   simp only[lW];rw[dF (by omega)];rfl)
  have ea:((List.range m.Left.length).all λp=>!(m.Left.getD p default))=m.Left.all λb=>!b:=by apply dbe;rw[List.all_eq_true,List.all_eq_true];constructor;{intro hh b hb;obtain⟨i,hi,e⟩:=List.getElem_of_mem hb;have:=hh i (List.mem_range.2 hi);rwa[bM hi,e]at this};{intro hh i hi;exact hh _ (cS (List.mem_range.1 hi))}
  rw[ea]at key;rw[show(0:Int)=((0:Nat):Int)from rfl,key];cases hl:m.Left.all (λb=>!b)with
  |false=>rfl
  |true=>simp only[cTq,oB,LO.val,JO.run,uU];have th:=vJ l;rw[bAa k,oB,aD ⟨by omega,by omega⟩];show Option.bind (fB (m.From.Guests.getD m.G.toNat default)) _=_;rw[aMy l.small gx,oB,aD ⟨by omega,by omega⟩,aD ⟨by simp only[List.length_nil];omega,by simp only[List.length_nil];omega⟩,aD ⟨by omega,by omega⟩,aD ⟨by omega,by omega⟩];unfold M.hostDrop M.withM;rw[th,l.live,t.live];rfl
end
theorem aUx{m:DMove}(hf:FitM m):jK m=some true:=by unfold jK;obtain⟨v,hv,hs⟩:=aNw hf (left:=1048576) (by omega) (by omega);rw[hv];simp only[oB];rcases hs with h0|⟨h0,-,hs⟩;{rw[aYt h0];rfl};{rw[dF (by omega),cFq];simp only[aNk hs,aRv hs,aSe hs,oB,aDd hs,decide_true,bT,cFq,beq_self_eq_true]}
structure Got (h : DHost) (g : Int) (y : DGuest) (h' : DHost) (y' : DGuest) : Prop where
 small:SmallH h'
 live:Live h' g y'
 views:∀k:Nat,k<3->M.hostView h' (k:Int)=M.hostView h (k:Int)
 mem:M.mem h'.Words y'.Pages=M.mem h.Words y.Pages
section
variable {h : DHost} {g p : Int} {y : DGuest}
theorem aUo{h':DHost}{y':DGuest}(l:Live h g y)(l':Live h' g y')(e:M.hostView h' g=M.hostView h g):M.mem h'.Words y'.Pages=M.mem h.Words y.Pages:=by rw[qX l,qX l']at e;exact congrArg (λv=>v.1.Mem) e
theorem aNu (hs:SmallH h) (l:Live h g y) {f:Int} (p0:0<=p) (p1:p<=7) (f0:0<=f) (f1:f<20)
 (hm:((y.Pages.getD p.toNat default).Frame=f/\M.many (M.slots h.Guests) f=1)\/M.many (M.slots h.Guests) f=0):Got h g y (M.inFrame h g p f) (hY y p.toNat f):=by
 have g0:=l.lo;have g1:=l.hi;have hmf:M.many (M.slots h.Guests) f=if(y.Pages.getD p.toNat default).Frame=f then 1 else 0:=by rcases hm with⟨q,hm⟩|hm;{rw[if_pos q,hm]};{rw[if_neg (aAm l (by omega) hm),hm]}
 have hok:=aHn l p0 p1 f0 f1 hmf;have l2:=aLq hs l p0 p1 f0 f1 hok;have hv:∀k:Nat,k<3->M.hostView (M.inFrame h g p f) (k:Int)=M.hostView h (k:Int):=λk hk=>aJy hs l p0 p1 f0 f1 hok (hm.imp And.left id) hk;have hg:=hv g.toNat (by omega);rw[show((g.toNat:Nat):Int)=g by omega]at hg;exact⟨yI hs l f0 f1,l2,hv,aUo l l2 hg⟩
theorem bFz(hs:SmallH h)(l:Live h g y)(h2:(M.hostFill h g p).2=true):∃y',0<=p/\p<=7/\Got h g y (M.hostFill h g p).1 y':=by obtain⟨x,lx,p0,p1,hc⟩:=aLm hs h2;have ex:x=y:=lx.at_.symm.trans l.at_;subst ex;rcases hc with⟨e,_⟩|⟨f,f0,f1,hm,e⟩;{rw[e];exact⟨x,p0,p1,hs,l,λ_ _=>rfl,rfl⟩};{rw[e];exact⟨_,p0,p1,aNu hs l p0 p1 f0 f1 (.inr hm)⟩}
theorem bGi(hs:SmallH h)(l:Live h g y)(h2:(M.hostCopy h g p).2=true):∃y',Got h g y (M.hostCopy h g p).1 y'/\y'.Pages.length=8/\(y'.Pages.getD p.toNat default).Write=true/\0<=(y'.Pages.getD p.toNat default).Frame:=by obtain⟨x,f,lx,p0,p1,f0,f1,e,hc⟩:=aLp hs h2;have ex:x=y:=lx.at_.symm.trans l.at_;subst ex;obtain⟨-,e1,e2⟩:=aKe (f:=f) l p0 p1;rw[e];exact⟨_,aNu hs l p0 p1 f0 f1 hc,e1,by rw[e2],by rw[e2];exact f0⟩
end
structure Put (h : DHost) (g : Int) (y : DGuest) (p : Nat) (ws : List Int) (h' : DHost) (y' : DGuest) : Prop where
 small:SmallH h'
 live:Live h' g y'
 page:∀q,q<8->M.page (M.mem h'.Words y'.Pages) q=if q=p then ws else M.page (M.mem h.Words y.Pages) q
 others:∀k:Nat,k<3->(k:Int)≠g->M.hostView h' (k:Int)=M.hostView h (k:Int)
section
variable {h : DHost} {g : Int} {y : DGuest} {p : Nat} {ws : List Int}
theorem bFf(hs:SmallH h)(l:Live h g y)(hp:p<8)(hw:(y.Pages.getD p default).Write=true)(hf:0<=(y.Pages.getD p default).Frame)(h8:ws.length=8)(hok:M.wordsOk ws=true):
 Put h g y p ws ⟨over h.Words ((y.Pages.getD p default).Frame.toNat*8) 8 ws,h.Guests⟩ y:=by
 have h3:=l.ok.three;have g0:=l.lo;have g1:=l.hi;have hpl:=l.pages;have hlw:=l.ok.len;have hsl:=cO l hp;have ol:(over h.Words ((y.Pages.getD p default).Frame.toNat*8) 8 ws).length=160:=(by rw[xN (by omega),hlw]);have og:∀a,(over h.Words ((y.Pages.getD p default).Frame.toNat*8) 8 ws).getD a default=if a<(y.Pages.getD p default).Frame.toNat*8 then h.Words.getD a default else if a<(y.Pages.getD p default).Frame.toNat*8+8 then ws.getD (a-(y.Pages.getD p default).Frame.toNat*8) default else h.Words.getD a default:=λa=>aAb h8 (by omega)
 have k2:HOk ⟨over h.Words ((y.Pages.getD p default).Frame.toNat*8) 8 ws,h.Guests⟩:=(by refine⟨ol,?_,h3,l.ok.all,l.ok.alone⟩;rw[mJ];intro a ha;rw[ol]at ha;have w1:=mJ.1 l.ok.words a (by omega);rw[og];split;{exact w1};{split;{exact mJ.1 hok _ (by omega)};{exact w1}});have l2:Live ⟨over h.Words ((y.Pages.getD p default).Frame.toNat*8) 8 ws,h.Guests⟩ g y:=⟨l.small,k2,g0,g1,l.at_,l.live,l.core,hpl,l.slots,l.inn,l.out⟩
 have far:∀{k q b:Nat},k<3->q<(h.Guests.getD k default).Pages.length->((k:Int)≠g\/q≠p)->-1<=((h.Guests.getD k default).Pages.getD q default).Frame->b<8->¬((h.Guests.getD k default).Pages.getD q default).Frame<0->
  (over h.Words ((y.Pages.getD p default).Frame.toNat*8) 8 ws).getD (((h.Guests.getD k default).Pages.getD q default).Frame.toNat*8+b) default=h.Words.getD (((h.Guests.getD k default).Pages.getD q default).Frame.toNat*8+b) default:=λ{k q b} hk hq hn _ hb hz=>by
  have ne:=aAe hs l hp hw (by omega) hk hq hn;rw[og];split;{rfl};{split;{omega};{rfl}}
 refine⟨⟨by show(over _ _ _ _).length<=_;omega,hs.guests,hs.all⟩,l2,λq hq=>?_,λk hk hn=>?_⟩
 · have l8:(M.page (M.mem h.Words y.Pages) q).length=8:=oN (by rw[dK];omega)
   refine gW (n:=8) (oN (by rw[dK];omega)) (by split;exact h8;exact l8) λa ha=>?_;have e:M.page (M.mem (over h.Words ((y.Pages.getD p default).Frame.toNat*8) 8 ws) y.Pages) q=M.page (M.mem (over h.Words ((y.Pages.getD p default).Frame.toNat*8) 8 ws) y.Pages) q:=rfl;show(M.page (M.mem (over h.Words ((y.Pages.getD p default).Frame.toNat*8) 8 ws) y.Pages) q).getD a default=_;have lhs:(M.page (M.mem (over h.Words ((y.Pages.getD p default).Frame.toNat*8) 8 ws) y.Pages) q).getD a default=if(y.Pages.getD q default).Frame<0 then 0 else(over h.Words ((y.Pages.getD p default).Frame.toNat*8) 8 ws).getD ((y.Pages.getD q default).Frame.toNat*8+a) default:=by unfold M.page;rw[lJ ha,eX (by omega),aEv ha]
   rw[lhs];by_cases eq:q=p;{subst eq;rw[if_pos rfl,if_neg (by omega),og,if_neg (by omega),if_pos (by omega)];congr 1;omega};{rw[if_neg eq];unfold M.page;rw[lJ ha,eX (by omega),aEv ha];by_cases z:(y.Pages.getD q default).Frame<0;{rw[if_pos z,if_pos z]};{rw[if_neg z,if_neg z];have hat:=l.at_;have hsq:=cO l hq;have:=far (k:=g.toNat) (q:=q) (b:=a) (by omega) (by rw[hat];omega) (.inr eq) (by rw[hat];exact hsq.1) ha (by rw[hat];exact z);rwa[hat]at this}}
 {unfold M.hostView M.there;rw[dN.2 k2,dN.2 l.ok,iT];simp only;(cases ht:(true&&(M.inR 0 2 (k:Int)&&(h.Guests.getD k default).Live))with|false=>rfl|true=>have lk:Live h (k:Int) (h.Guests.getD (k:Int).toNat default):=dB hs (by unfold M.there;rw[dN.2 l.ok,iT];exact ht);rw[iT]at lk;have:M.mem (over h.Words ((y.Pages.getD p default).Frame.toNat*8) 8 ws) (h.Guests.getD k default).Pages=M.mem h.Words (h.Guests.getD k default).Pages:=(by refine gW dK dK λa ha=>?_;rw[eX ha,eX ha];unfold M.word;have hsq:=cO lk (p:=a/8) (by omega);have hlk:=lk.pages;by_cases z:((h.Guests.getD k default).Pages.getD (a/8) default).Frame<0;{rw[if_pos z,if_pos z]};{rw[if_neg z,if_neg z];exact far hk (by omega) (.inl hn) hsq.1 (by omega) z});rw[this])}
theorem Got.put{h1:DHost}{y1:DGuest}{h2:DHost}{y2:DGuest}(a:Got h g y h1 y1)(b:Put h1 g y1 p ws h2 y2):Put h g y p ws h2 y2:=⟨b.small,b.live,λq hq=>by rw[b.page q hq,a.mem],λk hk hn=>(b.others k hk hn).trans (a.views k hk)⟩
theorem Got.trans{h1:DHost}{y1:DGuest}{h2:DHost}{y2:DGuest}(a:Got h g y h1 y1)(b:Got h1 g y1 h2 y2):Got h g y h2 y2:=⟨b.small,b.live,λk hk=>(b.views k hk).trans (a.views k hk),b.mem.trans a.mem⟩
theorem bDm(hz:M.zeros ws=true){a:Nat}(ha:a<8):ws.getD a default=0:=by unfold M.zeros at hz;exact of_decide_eq_true (List.all_eq_true.1 hz a (List.mem_range.2 ha))
theorem bAz{q:Int}(hs:SmallH h)(l:Live h g y)(q0:0<=q)(q1:q<=7)(h8:ws.length=8)(hok:M.wordsOk ws=true)(h2:(M.placeW h g q ws).2=true):∃y',Put h g y q.toNat ws (M.placeW h g q ws).1 y':=by
 unfold M.placeW at h2 ⊢;cases hz:M.zeros ws with
 |true=>
  have hq:([q]:List Int).all (M.inR 0 7)=true:=(by simp[M.inR,q0,q1]);have th:M.there h g=true:=eS.2 ⟨l.ok,l.lo,l.hi,by rw[l.at_];exact l.live⟩;have e:M.hostGive h g [q]=(⟨h.Words,h.Guests.set g.toNat (M.giveG y [q])⟩,true):=(by unfold M.hostGive;rw[th,hq,l.at_];rfl);rw[cTq,e];refine⟨M.giveG y [q],aJc hs l,bCu hs l,λr hr=>?_,λk hk hn=>bAi l hk hn⟩;have l8:(M.page (M.mem h.Words y.Pages) r).length=8:=oN (by rw[dK];omega);refine gW (n:=8) (oN (by rw[dK];omega)) (by split;exact h8;exact l8) λa ha=>?_;show(M.page (M.mem h.Words (M.giveG y [q]).Pages) r).getD a default=_;have lhs:(M.page (M.mem h.Words (M.giveG y [q]).Pages) r).getD a default=if((r:Nat):Int)∈([q]:List Int)then 0 else(M.mem h.Words y.Pages).getD (r*8+a) default:=by have:=bEv l hq (b:=r*8+a) (by omega);rw[show(r*8+a)/8=r by omega]at this;rw[<-this];unfold M.page;rw[lJ ha]
  rw[lhs];by_cases er:r=q.toNat
  {rw[if_pos er,if_pos (by rw[List.mem_singleton];omega),bDm hz ha]};{rw[if_neg er,if_neg (by rw[List.mem_singleton];omega)];unfold M.page;rw[lJ ha]}
 |false=>rw[hz,cFq]at h2;rw[cFq];unfold M.framed at h2 ⊢;(cases f2:(M.hostFill h g q).2 with|false=>rw[f2]at h2;cases h2|true=>rw[f2,cTq]at h2;rw[cTq];obtain⟨y1,-,-,a⟩:=bFz hs l f2;(cases c2:(M.hostCopy (M.hostFill h g q).1 g q).2 with|false=>rw[c2]at h2;cases h2|true=>rw[cTq];obtain⟨y2,b,-,bw,bf⟩:=bGi a.small a.live c2;refine⟨y2,(a.trans b).put ?_⟩;have:=bFf (p:=q.toNat) b.small b.live (by omega) bw bf h8 hok;unfold M.slotAt;rw[b.live.at_];exact this))
end
structure Did (m m' : DMove) (st : Bool) : Prop where
 g:m'.G=m.G
 n:m'.N=m.N
 ok:∃x y,MOk m' x y
 view:M.hostView m'.From m.G=bif st then(M.step (M.hostView m.From m.G).1,true)else M.hostView m.From m.G
 here:∀k:Nat,k<3->(k:Int)≠m.G->M.hostView m'.From (k:Int)=M.hostView m.From (k:Int)
 there:∀k:Nat,k<3->(k:Int)≠m.N->M.hostView m'.To (k:Int)=M.hostView m.To (k:Int)
theorem aGl{ls:List Bool}{ps:List DSlot}:(M.dirtied ls ps).length=8:=by simp[M.dirtied]
theorem aUg{ls:List Bool}{ps:List DSlot}{p:Nat}(hp:p<8):(M.dirtied ls ps).getD p default=(ls.getD p default||(ps.getD p default).Dirty):=by rw[bM (by rw[aGl];exact hp)];simp[M.dirtied]
section
variable {m : DMove} {x y : DGuest}
theorem bGs(k:MOk m x y)(h2:(M.moveStep m).2=true):Did m (M.moveStep m).1 true:=by have g0:=k.here.lo;have g1:=k.here.hi;have hst:(M.hostStep m.From m.G).2=true:=(by unfold M.moveStep at h2;(cases e:(M.hostStep m.From m.G).2 with|true=>rfl|false=>rw[e]at h2;cases h2));rcases aMv (g:=m.G) k.sf with⟨_,e⟩|⟨_,_,e⟩|⟨x0,h',x1,y1,l0,r,hy,e⟩;{rw[e]at hst;cases hst};{rw[e]at hst;cases hst};{have ex:x0=x:=l0.at_.symm.trans k.here.at_;subst ex;have tv:=aXv (h:=M.ran h' m.G x1) (g:=m.G);rw[hy.view]at tv;have hR:Live (M.ran h' m.G x1) m.G y1:=(by have:=dB hy.small tv.symm;rwa[hy.at_]at this);have em:(M.moveStep m).1=⟨M.cleanAt (M.ran h' m.G x1) m.G,m.To,m.G,m.N,M.dirtied m.Left y1.Pages⟩:=(by unfold M.moveStep;rw[e,cTq];simp only;rw[hy.at_]);have hv:=hy.view;rw[qX hR,r.same]at hv;have hmem:M.mem (M.ran h' m.G x1).Words y1.Pages=(M.step (M.vw m.From.Words x0)).Mem:=congrArg (λv=>v.1.Mem) hv;have hold:M.mem h'.Words x1.Pages=M.mem m.From.Words x0.Pages:=congrArg DBare.Mem r.same;have cv:=λ(j:Nat) (hj:j<3)=>aDv hy.small hR hj;rw[em];refine⟨rfl,rfl,⟨M.mapG M.clean y1,y,uP hy.small hR,k.st,wC hy.small hR,k.there,aGl,λp hp=>?_,λp hp hl=>?_⟩,?_,λj hj hn=>?_,λ_ _ _=>rfl⟩;{show((y1.Pages.map M.clean).getD p default).Dirty=false;rw[aIt (by have:=hR.pages;omega)];rfl};{have hl:(M.dirtied m.Left y1.Pages).getD p default=false:=hl;rw[aUg hp,Bool.or_eq_false_iff]at hl;have e1:=k.same p hp hl.1;rw[<-e1];show M.page (M.mem (M.cleanAt (M.ran h' m.G x1) m.G).Words (M.mapG M.clean y1).Pages) p=_;rw[aHe hR,hmem];refine gW (n:=8) (oN (by rw[<-hmem,dK];omega)) (oN (by rw[dK];omega)) λa ha=>?_;unfold M.page;rw[lJ ha,lJ ha];apply Classical.byContradiction;intro hn;have:=hy.told (p*8+a) (by omega) (by rw[hold,r.same];exact λq=>hn q.symm);rw[show(p*8+a)/8=p by omega,hl.2]at this;cases this};{show M.hostView (M.cleanAt (M.ran h' m.G x1) m.G) m.G=_;have:=cv m.G.toNat (by omega);rw[show((m.G.toNat:Nat):Int)=m.G by omega]at this;rw[this,hy.view,r.same,aCv k.here];rfl};{show M.hostView (M.cleanAt (M.ran h' m.G x1) m.G) (j:Int)=_;rw[cv j hj,hy.others j hj hn,r.views j hj]}}
theorem bFr{h:DHost}{g:Int}{x:DGuest}(l:Live h g x){p:Nat}(hp:p<8):(M.pageWords h.Words (x.Pages.getD p default)).length=8/\M.wordsOk (M.pageWords h.Words (x.Pages.getD p default))=true:=by have hsl:=cO l hp;have hlw:=l.ok.len;have h8:=kN (ws:=h.Words) hlw hsl;refine⟨h8,?_⟩;rw[mJ];intro a ha;rw[h8]at ha;rw[kQ hsl ha];split;{rfl};{exact mJ.1 l.ok.words _ (by omega)}
theorem bFb(k:MOk m x y){q:Int}(q0:0<=q)(q1:q<=7)(h2:(M.moveSend m q).2=true):Did m (M.moveSend m q).1 false/\(M.moveSend m q).1.Left=m.Left.set q.toNat false:=by
 have hp:q.toNat<8:=(by omega);have hwa:M.wordsAt m.From m.G q.toNat=M.pageWords m.From.Words (x.Pages.getD q.toNat default):=(by unfold M.wordsAt M.slotAt;rw[k.here.at_]);obtain⟨w8,wok⟩:=bFr k.here hp;have hpl:(M.placeW m.To m.N q (M.wordsAt m.From m.G q.toNat)).2=true:=(by unfold M.moveSend at h2;(cases e:(M.placeW m.To m.N q (M.wordsAt m.From m.G q.toNat)).2 with|true=>rfl|false=>rw[e]at h2;cases h2));have em:(M.moveSend m q).1=⟨m.From,(M.placeW m.To m.N q (M.wordsAt m.From m.G q.toNat)).1,m.G,m.N,m.Left.set q.toNat false⟩:=(by unfold M.moveSend;rw[hpl];rfl);rw[em];rw[hwa]at hpl ⊢;obtain⟨y',P⟩:=bAz k.st k.there q0 q1 w8 wok hpl;refine⟨⟨rfl,rfl,⟨x,y',k.sf,P.small,k.here,P.live,by show(m.Left.set _ _).length=8;rw[lS];exact k.len,k.clean,λp hp8 hl=>?_⟩,rfl,λ_ _ _=>rfl,P.others⟩,rfl⟩;have hl:(m.Left.set q.toNat false).getD p default=false:=hl;show M.page (M.mem m.From.Words x.Pages) p=M.page (M.mem (M.placeW m.To m.N q (M.pageWords m.From.Words (x.Pages.getD q.toNat default))).1.Words y'.Pages) p;rw[P.page p hp8];by_cases e:p=q.toNat
 {rw[if_pos e,e,yY k.here hp]};{rw[if_neg e];refine k.same p hp8 ?_;rwa[List.getD_eq_getElem?_getD,List.getElem?_set,if_neg (λc=>e c.symm),<-List.getD_eq_getElem?_getD]at hl}
theorem bLp(hs:SmallM m){a:DAct}(h2:(M.moveDo m a).2=true):M.moveOk m=true/\Did m (M.moveDo m a).1 (decide (a.Kind=1)):=by unfold M.moveDo at h2 ⊢;(cases ho:M.moveOk m with|false=>rw[ho]at h2;cases h2|true=>have k:=aKt hs ho;rw[ho,cTq]at h2;rw[cTq];refine⟨rfl,?_⟩;(cases h1:decide (a.Kind=1)with|true=>rw[h1,cTq]at h2;exact bGs k h2|false=>rw[h1,cFq]at h2;rw[cFq];(cases hc:(decide (a.Kind=2)&&M.inR 0 7 a.Page)with|false=>rw[hc]at h2;cases h2|true=>rw[hc,cTq]at h2;rw[bA]at hc;obtain⟨p0,p1⟩:=M.inR_iff.1 hc.2;exact(bFb k p0 p1 h2).1)))
structure End (m : DMove) (a b : DHost) : Prop where
 sa:SmallH a
 sb:SmallH b
 oa:M.hostOk a=true
 ob:M.hostOk b=true
 view:M.hostView b m.N=M.hostView m.From m.G
 gone:(M.hostView a m.G).2=false
 here:∀k:Nat,k<3->(k:Int)≠m.G->M.hostView a (k:Int)=M.hostView m.From (k:Int)
 there:∀k:Nat,k<3->(k:Int)≠m.N->M.hostView b (k:Int)=M.hostView m.To (k:Int)
theorem bKj(hs:SmallM m)(h2:(M.moveEnd m).2.2=true):M.moveOk m=true/\m.Left.all (λb=>!b)=true/\End m (M.moveEnd m).1 (M.moveEnd m).2.1:=by
 unfold M.moveEnd at h2 ⊢;cases hc:(M.moveOk m&&m.Left.all (λb=>!b))with
 |false=>rw[hc]at h2;cases h2
 |true=>rw[bA]at hc;refine⟨hc.1,hc.2,?_⟩;rw[cTq];have k:=aKt hs hc.1;generalize hx:m.From.Guests.getD m.G.toNat default=x at k;generalize hy:m.To.Guests.getD m.N.toNat default=y at k;have th:M.there m.From m.G=true:=vJ k.here;have g0:=k.here.lo;have g1:=k.here.hi;have n0:=k.there.lo;have n1:=k.there.hi;have f3:=k.here.ok.three;have t3:=k.there.ok.three;have oa:=aUr th;have gy:M.guestOk (⟨y.Live,x.C,y.Pages,x.In,x.Out⟩:DGuest)=true:=(sJ (x:=(⟨y.Live,x.C,y.Pages,x.In,x.Out⟩:DGuest)) k.there.live).2 ⟨k.here.core,k.there.pages,k.there.slots,k.here.inn,k.here.out⟩;have ok2:HOk ⟨m.To.Words,m.To.Guests.set m.N.toNat (⟨y.Live,x.C,y.Pages,x.In,x.Out⟩:DGuest)⟩:=aMc k.there.ok (by omega) gy (λs hs hw=>⟨s,by rw[k.there.at_];exact hs,hw,rfl⟩) (λf _=>by rw[k.there.at_];exact Nat.le_refl _);have sm2:SmallH ⟨m.To.Words,m.To.Guests.set m.N.toNat (⟨y.Live,x.C,y.Pages,x.In,x.Out⟩:DGuest)⟩:=xV hs.t ⟨k.here.small.c,k.there.small.pages,k.here.small.i,k.here.small.o⟩;have l2:=aHt sm2 ok2 t3 n0 n1 k.there.live;have same:M.mem m.To.Words y.Pages=M.mem m.From.Words x.Pages:=bCm λp hp=>(k.same p hp (by have:=List.all_eq_true.1 hc.2 _ (cS (xs:=m.Left) (k:=p) (by have:=k.len;omega));rwa[Bool.not_eq_true']at this)).symm;refine⟨aYu hs.f,sm2,oa,dN.2 ok2,?_,bBf th,λj hj hn=>?_,λj hj hn=>?_⟩;{show M.hostView (⟨m.To.Words,m.To.Guests.set m.N.toNat (⟨y.Live,x.C,y.Pages,x.In,x.Out⟩:DGuest)⟩:DHost) m.N=_;rw[qX l2,qX k.here];show((⟨x.C,M.mem m.To.Words y.Pages,x.In,x.Out⟩:DBare),true)=_;rw[same]};{have e:(M.hostDrop m.From m.G).1=⟨m.From.Words,m.From.Guests.set m.G.toNat M.noGuest⟩:=(by unfold M.hostDrop;rw[th];rfl);rw[e]at oa ⊢;exact aAk k.here.ok (dN.1 oa) hj (by omega)};{exact aAk k.there.ok ok2 hj (by omega)}
theorem bCa(hs:SmallM m):SmallH (M.moveEnd m).1/\SmallH (M.moveEnd m).2.1:=by
 cases h2:(M.moveEnd m).2.2 with
 |true=>obtain⟨-,-,E⟩:=bKj hs h2;exact⟨E.sa,E.sb⟩
 |false=>
  have:(M.moveEnd m).1=M.zeroH/\(M.moveEnd m).2.1=M.zeroH:=by
   unfold M.moveEnd at h2 ⊢;cases hc:(M.moveOk m&&m.Left.all (λb=>!b))with
   |false=>exact⟨rfl,rfl⟩
   |true=>rw[hc]at h2;cases h2
  rw[this.1,this.2];exact⟨aJh,aJh⟩
end
section
variable {a b : DHost} {g : Int}
structure Begun (a b : DHost) (g : Int) (m : DMove) : Prop where
 ok:∃x y,MOk m x y
 eg:m.G=g
 left:m.Left=List.replicate 8 true
 here:∀k:Nat,k<3->M.hostView m.From (k:Int)=M.hostView a (k:Int)
 there:∀k:Nat,k<3->(k:Int)≠m.N->M.hostView m.To (k:Int)=M.hostView b (k:Int)
 was:M.there a g=true
theorem aSo{x:DGuest}{f:Int}(hf:f≠-1):M.many (M.arrival x).Pages f=0:=by unfold M.many;rw[List.countP_eq_zero];intro s hs;rw[(List.mem_replicate.1 (show s∈List.replicate 8 M.nowhere from hs)).2,decide_eq_true_eq];exact λe=>hf e.symm
theorem bEo(ha:SmallH a)(hb:SmallH b)(h2:(M.moveBegin a b g).2=true):Begun a b g (M.moveBegin a b g).1:=by unfold M.moveBegin at h2 ⊢;(cases hc:(M.there a g&&M.hostOk b&&decide (M.gone b.Guests≠-1))with|false=>rw[hc]at h2;cases h2|true=>simp only[bA,decide_eq_true_eq]at hc;obtain⟨⟨th,ok⟩,hn⟩:=hc;rw[cTq];have l:=dB ha th;obtain⟨n,n3,en,hd⟩:=bAv hn;generalize hx:a.Guests.getD g.toNat default=x at l;have kb:=dN.1 ok;have b3:=kb.three;have ga:M.guestOk (M.arrival x)=true:=(sJ (x:=M.arrival x) rfl).2 ⟨l.core,by show(List.replicate 8 M.nowhere).length=8;rw[List.length_replicate],by show(List.replicate 8 M.nowhere).all M.slotOk=true;decide,l.inn,l.out⟩;have ok2:HOk ⟨b.Words,b.Guests.set n (M.arrival x)⟩:=aMc kb n3 ga (λs hs hw=>by rw[(List.mem_replicate.1 (show s∈List.replicate 8 M.nowhere from hs)).2]at hw;cases hw) (λf hf=>by rw[aSo hf];exact Nat.zero_le _);have sm2:SmallH ⟨b.Words,b.Guests.set n (M.arrival x)⟩:=xV hb ⟨l.small.c,by show(List.replicate 8 M.nowhere).length<=_;rw[List.length_replicate];omega,l.small.i,l.small.o⟩;have l2:Live ⟨b.Words,b.Guests.set n (M.arrival x)⟩ (n:Int) (M.arrival x):=(by have:=aHt (g:=(n:Int)) (h:=b) (y:=M.arrival x) (by rw[iT];exact sm2) (by rw[iT];exact ok2) b3 (by omega) (by omega) rfl;rwa[iT]at this);rw[en,iT];refine⟨⟨M.mapG M.clean x,M.arrival x,uP ha l,sm2,wC ha l,l2,by show(List.replicate 8 true).length=8;rw[List.length_replicate],λp hp=>?_,λp hp hl=>?_⟩,rfl,rfl,λk hk=>aDv ha l hk,λk hk hn=>aAk kb ok2 hk (λe=>hn (by rw[e])),th⟩;{show((x.Pages.map M.clean).getD p default).Dirty=false;rw[aIt (by have:=l.pages;omega)];rfl};{have hl:(List.replicate 8 true).getD p default=false:=hl;rw[bM (by rw[List.length_replicate];exact hp),List.getElem_replicate]at hl;cases hl})
theorem aUu(ha:SmallH a)(hb:SmallH b):SmallM (M.moveBegin a b g).1:=by
 (cases h2:(M.moveBegin a b g).2 with|true=>obtain⟨_,_,k⟩:=(bEo ha hb h2).ok;exact k.small|false=>have:(M.moveBegin a b g).1=M.zeroM:=(by unfold M.moveBegin at h2 ⊢;(cases hc:(M.there a g&&M.hostOk b&&decide (M.gone b.Guests≠-1))with|false=>rfl|true=>rw[hc]at h2;cases h2));rw[this];exact aUn)
end
namespace M
def send(p:Nat):DAct:=⟨2,(p:Int)⟩
noncomputable def act (s:DMove×Int)(a:DAct):DMove×Int:=bif (moveDo s.1 a).2 then((moveDo s.1 a).1,bif decide (a.Kind=1)then s.2+1 else s.2)else s
def sends(ls:List Bool):List DAct:=((List.range ls.length).filter λp=>ls.getD p default).map send
noncomputable def sentAll (m:DMove):DMove:=((sends m.Left).foldl act (m,0)).1
end M
structure Mv (a b : DHost) (g n : Int) (s : DMove × Int) (c : Nat) : Prop where
 ok:M.moveOk s.1=true
 small:SmallM s.1
 eg:s.1.G=g
 en:s.1.N=n
 num:s.2=(c:Int)
 view:M.hostView s.1.From g=(M.steps c (M.hostView a g).1,true)
 here:∀k:Nat,k<3->(k:Int)≠g->M.hostView s.1.From (k:Int)=M.hostView a (k:Int)
 there:∀k:Nat,k<3->(k:Int)≠n->M.hostView s.1.To (k:Int)=M.hostView b (k:Int)
section
variable {a b : DHost} {g n : Int} {s : DMove × Int} {c : Nat}
theorem Mv.act(v:Mv a b g n s c)(t:DAct):∃c',Mv a b g n (M.act s t) c'/\c<=c'/\c'<=c+1:=by unfold M.act;(cases h2:(M.moveDo s.1 t).2 with|false=>exact⟨c,v,Nat.le_refl _,Nat.le_succ _⟩|true=>obtain⟨_,d⟩:=bLp v.small h2;obtain⟨x,y,k⟩:=d.ok;have vg:=v.eg;have vn:=v.en;have vw:=d.view;rw[vg,v.view]at vw;have vh:∀k:Nat,k<3->(k:Int)≠g->M.hostView (M.moveDo s.1 t).1.From (k:Int)=M.hostView a (k:Int):=λk hk hn=>(d.here k hk (by rw[vg];exact hn)).trans (v.here k hk hn);have vt:∀k:Nat,k<3->(k:Int)≠n->M.hostView (M.moveDo s.1 t).1.To (k:Int)=M.hostView b (k:Int):=λk hk hn=>(d.there k hk (by rw[vn];exact hn)).trans (v.there k hk hn);rw[cTq];(cases h1:decide (t.Kind=1)with|false=>rw[h1,cFq]at vw;exact⟨c,⟨k.ok,k.small,d.g.trans vg,d.n.trans vn,v.num,vw,vh,vt⟩,Nat.le_refl _,Nat.le_succ _⟩|true=>rw[h1,cTq]at vw;exact⟨c+1,⟨k.ok,k.small,d.g.trans vg,d.n.trans vn,by show s.2+1=_;rw[v.num];omega,vw,vh,vt⟩,Nat.le_succ _,Nat.le_refl _⟩))
theorem Mv.acts(v:Mv a b g n s c):∀(ts:List DAct),∃c',Mv a b g n (ts.foldl M.act s) c'/\c'<=c+ts.length:=by
 intro ts;induction ts generalizing s c with
 |nil=>exact⟨c,v,Nat.le_refl _⟩
 |cons t ts ih=>obtain⟨c1,v1,-,b1⟩:=v.act t;obtain⟨c2,v2,b2⟩:=ih v1;exact⟨c2,v2,by rw[List.length_cons];omega⟩
end
namespace M
noncomputable def tr (m:DMove)(p:Nat):DMove:=bif (moveDo m (send p)).2 then(moveDo m (send p)).1 else m
noncomputable def im (ls:List Bool)(m:DMove)(k:Nat):DMove:=(List.range k).foldl (λm p=>bif ls.getD p default then tr m p else m) m
noncomputable def sp (m:DMove)(k:Nat):DMove:=(List.range k).foldl (λm p=>bif m.Left.getD p default then(moveDo m (send p)).1 else m) m
end M
theorem bFg{m:DMove}{c:Int}{p:Nat}:M.act (m,c) (M.send p)=(M.tr m p,c):=by unfold M.act M.tr;cases(M.moveDo m (M.send p)).2<;>rfl
theorem aRt{ls:List Bool}{m:DMove}{c:Int}:(M.sends ls).foldl M.act (m,c)=(M.im ls m ls.length,c):=by
 unfold M.sends M.im;rw[List.foldl_map,List.foldl_filter];generalize List.range ls.length=ps;induction ps generalizing m with
 |nil=>rfl
 |cons p ps ih=>rw[List.foldl_cons,List.foldl_cons];(cases hp:ls.getD p default with|true=>rw[if_pos rfl,bFg,cTq];exact ih|false=>rw[if_neg (by simp),cFq];exact ih)
section
variable {m : DMove}
end
theorem Mv.sent{a b:DHost}{g n:Int}{s:DMove×Int}{c:Nat}(v:Mv a b g n s c):Mv a b g n (M.sentAll s.1,s.2) c:=by have e:(M.sends s.1.Left).foldl M.act (s.1,s.2)=(M.sentAll s.1,s.2):=(by unfold M.sentAll;rw[aRt,aRt]);obtain⟨c',v',_⟩:=Mv.acts (s:=(s.1,s.2)) v (M.sends s.1.Left);rw[e]at v';have h1:=v'.num;have h2:=v.num;have:c'=c:=(by simp only at h1;omega);rwa[this]at v'
structure Moved (a b : DHost) (g : Int) (r : DHost × DHost × Int × Int × Bool) (c : Nat) : Prop where
 sa:SmallH r.1
 sb:SmallH r.2.1
 num:r.2.2.2.1=(c:Int)
 most:c<=100
 was:M.there a g=true
 view:M.hostView r.2.1 r.2.2.1=(M.steps c (M.hostView a g).1,true)
 here:∀k:Nat,k<3->(k:Int)≠g->M.hostView r.1 (k:Int)=M.hostView a (k:Int)
 there:∀k:Nat,k<3->(k:Int)≠r.2.2.1->M.hostView r.2.1 (k:Int)=M.hostView b (k:Int)
section
variable {a b : DHost} {g : Int} {acts : List DAct}
end
theorem aMi{a b:DHost}{g:Int}(ha:FitH a)(hb:FitH b):gN a b g=some true:=by unfold gN;obtain⟨v,hv,hs⟩:=xZ ha (left:=1048576) (by omega) (by omega);rw[hv];simp only[oB];rcases hs with h0|⟨h0,hl,hs⟩;{rw[aYt h0];rfl};{obtain⟨u,hu,ht⟩:=xZ hb h0 (by omega);rw[dF (by omega),cFq,hu,oB];rcases ht with g0|⟨g0,-,ht⟩;{rw[aYt g0];rfl};{have hz:=aUu (g:=g) hs ht;have m1:=lH (k:=1) hs;have m2:=lH (k:=(dQ a 1).2) ht;have m3:=aPw (k:=1) hz;have hk:=aUk (k:=1) hz (by omega) (by omega);rw[dF (by omega),cFq];simp only[xX hs,xX ht,aUf hs ht,aUt hs ht,oB,rN hs,rN ht,aDd hz,decide_true,bT,cFq,beq_self_eq_true,nL hs (k:=1) (by omega) (by omega),nL ht (k:=(dQ a 1).2) (by omega) (by omega),fM,aHb hz (k:=1) (by omega) (by omega),aDz,hk];rw[aD True.intro,aD True.intro,aD True.intro,aD True.intro,dF (by omega),cFq,aD True.intro,aD True.intro,aD True.intro,aD True.intro,aD True.intro,dF (by omega)];rfl}}
theorem aQm{m:DMove}(hf:FitM m):iV m=some true:=by unfold iV;obtain⟨v,hv,hs⟩:=aNw hf (left:=1048576) (by omega) (by omega);rw[hv];simp only[oB];rcases hs with h0|⟨h0,-,hs⟩;{rw[aYt h0];rfl};{obtain⟨za,zb⟩:=bCa hs;have m1:=lH (k:=1) za;have m2:=lH (k:=(dQ (M.moveEnd m).1 1).2) zb;have m3:=aPw (k:=1) hs;rw[dF (by omega),cFq];simp only[aNk hs,bDg hs,bBu hs,oB,rN za,rN zb,aDd hs,decide_true,bT,cFq,beq_self_eq_true,nL za (k:=1) (by omega) (by omega),nL zb (k:=(dQ (M.moveEnd m).1 1).2) (by omega) (by omega),fM,aHb hs (k:=1) (by omega) (by omega),aDz,tO za (k:=1) (by omega) (by omega),tO zb (k:=(dQ (M.moveEnd m).1 1).2) (by omega) (by omega)];rw[aD True.intro,aD True.intro,aD True.intro,aD True.intro,aD True.intro,dF (by omega),cFq,aD True.intro,aD True.intro,aD True.intro,aD True.intro,dF (by omega),cFq,dF (by omega),cFq];rfl}
end Go.Proofs.Ytcgggihjcelmhaa
