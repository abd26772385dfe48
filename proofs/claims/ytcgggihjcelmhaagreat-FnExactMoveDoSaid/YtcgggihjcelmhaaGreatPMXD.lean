/- The plain functions: what they answer. -/
import Derived.Test.YtcgggihjcelmhaaGreatPUJ
import Derived.Test.YtcgggihjcelmhaaGreatWHE1
import Derived.Test.YtcgggihjcelmhaaGreatWEMD1
import Derived.Test.YtcgggihjcelmhaaGreatZY
namespace Go.Proofs.YtcgggihjcelmhaaGreat
set_option linter.all false
namespace M
def sLets(s:DShade)(user write:Bool):Bool:=s.There&&(s.Write||!write)&&(s.User||!user)
def place(s:DShade)(addr:Int)(user write:Bool):Int×Int:=bif !sLets s user write then(-1,1)else bif decide (s.Frame=-1)then(-1,2)else bif write&&!s.Ready then(-1,3)else(s.Frame*8+addr%8,0)
end M
theorem at8{a f:Int}(h0:0<=a)(h1:a<=63)(f0:0<=f)(f1:f<20):w64 (w64 (f*8)+Int.tmod a 8)=f*8+a%8:=by rw[iM h0,aF (z:=f*8) (by omega) (by omega),aF (by omega) (by omega)]
theorem aXm{s:DShade}{a:Int}{user write:Bool}(h0:0<=a)(h1:a<=63)(f0:-1<=s.Frame)(f1:s.Frame<20):nV s a user write=some (M.place s a user write):=by obtain⟨t,w,u,p,f,r⟩:=s;simp only at f0 f1;unfold nV pD M.place M.sLets;by_cases e:f=-1;{simp only[dT e];cases t<;>cases w<;>cases u<;>cases user<;>cases write<;>rfl};{simp only[dF e,oZ,at8 h0 h1 (by omega) f1];cases t<;>cases w<;>cases u<;>cases user<;>cases write<;>cases r<;>simp only[bT,bF,cTq,cFq,oB,JO.run,Bool.and_true,Bool.and_false,Bool.true_and,Bool.false_and,Bool.or_true,Bool.or_false,oZ,at8 h0 h1 (show 0<=f by omega) f1]}
theorem aWa{xs:List DShade}{s:DShade}{a:Int}{user write:Bool}(h0:0<=a)(h1:a<=63)(hl:xs.length=8)(hg:xs.getD (a/8).toNat default=s)(f0:-1<=s.Frame)(f1:s.Frame<20):dB xs a user write=some (M.place s a user write):=by unfold dB M.place M.sLets;have e8:w64 (Int.tdiv a 8)=a/8:=(by rw[Int.tdiv_eq_ediv_of_nonneg h0,aF (by omega) (by omega)]);rw[e8,aA ⟨by omega,by omega⟩,hg];obtain⟨t,w,u,p,f,r⟩:=s;simp only at f0 f1;by_cases e:f=-1;{simp only[dT e,dT (p:=f<0) (by omega)];cases t<;>cases w<;>cases u<;>cases user<;>cases write<;>rfl};{simp only[dF e,dF (p:=f<0) (by omega)];cases t<;>cases w<;>cases u<;>cases user<;>cases write<;>cases r<;>simp only[bT,bF,cTq,cFq,oB,JO.run,Bool.and_true,Bool.and_false,Bool.true_and,Bool.false_and,Bool.or_true,Bool.or_false,zD,e8,hg,at8 h0 h1 (show 0<=f by omega) f1]}
theorem aDh{h:DHost}{g:Int}{x:DGuest}(l:Live h g x){p:Nat}(hp:p<8):-1<=(M.shade h.Words x p).Frame/\(M.shade h.Words x p).Frame<20:=by have he:=zJ l hp;exact aZ l (p:=(M.entry h.Words x p).Page.toNat) (by omega)
theorem bSy{h:DHost}{g:Int}{x:DGuest}(l:Live h g x):M.bareOk ⟨x.C,M.mem h.Words x.Pages,x.In,x.Out⟩=true:=by
 have hk:=l.ok;unfold M.bareOk M.memOk;simp only[bA,decide_eq_true_eq];refine⟨⟨⟨l.core,dE,?_⟩,l.inn⟩,l.out⟩;simp only[M.wordsOk,List.all_eq_true,M.mem,List.mem_map,List.mem_range]
 rintro w ⟨a,ha,rfl⟩
 unfold M.word M.wordOk;rw[M.inR_iff];have hr:=aVq l.slots (i:=a/8) (by rw[l.pages];omega);split;{omega};{exact iU hk.words (by rw[hk.len];omega)}
namespace M
def vw(ws:List Int)(x:DGuest):DBare:=⟨x.C,mem ws x.Pages,x.In,x.Out⟩
def mach(x:DGuest):DBare:=⟨x.C,[],x.In,x.Out⟩
def withM(h:DHost)(g:Int)(x:DGuest)(b:DBare):DHost:=⟨h.Words,h.Guests.set g.toNat ⟨x.Live,b.C,x.Pages,b.In,b.Out⟩⟩
def busy(c:DCore):Bool:=c.Stopped||((tick c).Waits&&(tick c).On)
def wpc(b:DBare):Int:=walk b.Mem b.C.Root b.C.Pc b.C.User false
def inst(b:DBare):DIns:=ins (b.Mem.getD (wpc b).toNat default)
def adr(b:DBare):Int:=reg b.C ((inst b).N%4)%64
def isSt(b:DBare):Bool:=decide ((inst b).Op=4)
def wad(b:DBare):Int:=walk b.Mem b.C.Root (adr b) b.C.User (isSt b)
def reads(b:DBare):Bool:=!busy b.C&&!decide (wpc b=-1)
def comes(b:DBare):Bool:=reads b&&(decide ((inst b).Op=3)||isSt b)&&!decide (wad b=-1)
def lackS(s:DSlot)(w:Bool):Bool:=decide (s.Frame=-1)||(w&&!s.Write)
def one(b:Bool):Nat:=bif b then 1 else 0
def cnt(ps:List DSlot)(b:DBare):Nat:=one (reads b&&lackS (ps.getD (wpc b/8).toNat default) false)+one (comes b&&lackS (ps.getD (wad b/8).toNat default) (isSt b))
def e0:DExit:=⟨0,0,⟨0,0,0⟩⟩
def aExit(s:DShade)(why:Int):DExit:=bif decide (why=2)then⟨2,s.Page,⟨0,0,0⟩⟩else bif decide (why=3)then⟨3,s.Page,⟨0,0,0⟩⟩else e0
def shadeAt(ws:List Int)(x:DGuest)(a:Int):DShade:=shade ws x (a/8).toNat
def placeAt(ws:List Int)(x:DGuest)(a:Int)(w:Bool):Int×Int:=place (shadeAt ws x a) a x.C.User w
def iExit(ws:List Int)(x:DGuest)(i:DIns):DExit:=
 bif kern i.Op&&!x.C.User then⟨1,0,i⟩
 else bif decide (i.Op=3)||decide (i.Op=4)then aExit (shadeAt ws x (reg x.C (i.N%4)%64)) (placeAt ws x (reg x.C (i.N%4)%64) (decide (i.Op=4))).2
 else e0
def xExit(ws:List Int)(x:DGuest):DExit:=
 bif busy x.C then e0
 else bif !decide ((placeAt ws x x.C.Pc false).2=0)then aExit (shadeAt ws x x.C.Pc) (placeAt ws x x.C.Pc false).2
 else iExit ws x (ins (ws.getD (placeAt ws x x.C.Pc false).1.toNat default))
noncomputable def guestExit (h:DHost)(g:Int):DExit:=bif there h g then xExit h.Words (h.Guests.getD g.toNat default)else e0
def lacks(e:DExit):Bool:=decide (e.Why=2)||decide (e.Why=3)
noncomputable def answered (h:DHost)(g:Int)(e:DExit):DHost×Bool:=bif decide (e.Why=2)then hostFill h g e.Page else hostCopy h g e.Page
noncomputable def ready (g:Int):Nat->DHost->Option DHost
 |0,h=>some h
 |n+1,h=>bif lacks (guestExit h g)then(bif (answered h g (guestExit h g)).2 then ready g n (answered h g (guestExit h g)).1 else none)else some h
def wrote(b:DBare):Bool:=comes b&&isSt b
def dirty(x:DGuest)(p:Nat):DSlot:=⟨(x.Pages.getD p default).Frame,(x.Pages.getD p default).Write,true⟩
def ran(h:DHost)(g:Int)(x:DGuest):DHost:=
 bif wrote (vw h.Words x)then
  ⟨h.Words.set ((x.Pages.getD (wad (vw h.Words x)/8).toNat default).Frame*8+wad (vw h.Words x)%8).toNat (reg x.C (inst (vw h.Words x)).A),h.Guests.set g.toNat ⟨x.Live,(step (vw h.Words x)).C,x.Pages.set (wad (vw h.Words x)/8).toNat (dirty x (wad (vw h.Words x)/8).toNat),(step (vw h.Words x)).In,(step (vw h.Words x)).Out⟩⟩
 else withM h g x (step (vw h.Words x))
noncomputable def hostStep (h:DHost)(g:Int):DHost×Bool:=bif there h g then
 (match ready g 8 h with
 |some h'=>(ran h' g (h'.Guests.getD g.toNat default),true)
 |none=>(h,false))
 else(zeroH,false)
end M
section
variable (c : DCore)
theorem iN:(M.tick c).Pc=c.Pc:=by unfold M.tick;cases decide (c.Timer=0)<;>rfl
theorem aIz:(M.tick c).Root=c.Root:=by unfold M.tick;cases decide (c.Timer=0)<;>rfl
theorem oR:(M.tick c).User=c.User:=by unfold M.tick;cases decide (c.Timer=0)<;>rfl
theorem aVn:(M.tick c).Regs=c.Regs:=by unfold M.tick;cases decide (c.Timer=0)<;>rfl
theorem aBu(k:Int):M.reg (M.tick c) k=M.reg c k:=by unfold M.reg;rw[aVn]
end
theorem aDv{b:DBare}(hb:BOk b):M.insOk (M.inst b)=true:=by have hm:0<=b.Mem.getD (M.wpc b).toNat default/\b.Mem.getD (M.wpc b).toNat default<=4095:=(by by_cases h:M.wpc b=-1;{rw[h];exact aBo hb (z:=0) (by omega) (by omega)};{have hw:=aDl _ _ _ _ _ h;exact aBo hb hw.1 hw.2});exact aIk hm.1 hm.2
section
variable {h : DHost} {g : Int} {x : DGuest}
theorem hU(l:Live h g x):BOk (M.vw h.Words x):=bEl.1 (bSy l)
theorem bGy(l:Live h g x){a:Int}{w:Bool}(a0:0<=a)(a1:a<=63):
 M.walk (M.mem h.Words x.Pages) x.C.Root a x.C.User w=(bif M.sLets (M.shadeAt h.Words x a) x.C.User w then(M.shadeAt h.Words x a).Page*8+a%8 else-1):=by
 have hb:=hU l;have hr:=aKo l.core;unfold M.walk;rw[show M.memOk (M.mem h.Words x.Pages)=true from hb.mem,M.inR_iff.2 hr,M.inR_iff.2 ⟨a0,a1⟩];simp only[Bool.and_self,cTq];by_cases e:x.C.Root=-1;{rw[dT e,cTq];have es:M.shadeAt h.Words x a=M.shadeFor x ⟨true,true,true,(((a/8).toNat:Nat):Int)⟩:=(by unfold M.shadeAt M.shade M.entry;rw[if_pos e]);rw[es];simp only[M.sLets,M.shadeFor,Bool.true_or,Bool.and_self,cTq];omega};{rw[dF e,cFq];have es:M.shadeAt h.Words x a=M.shadeFor x (dec ((M.mem h.Words x.Pages).getD (x.C.Root*8+a/8).toNat default)):=(by unfold M.shadeAt M.shade M.entry;rw[if_neg e,eU (by omega),show(x.C.Root*8+a/8).toNat=x.C.Root.toNat*8+(a/8).toNat by omega]);rw[es];rfl}
theorem vZ(l:Live h g x){a:Int}{w:Bool}(a0:0<=a)(a1:a<=63){t:Int}(ht:M.walk (M.mem h.Words x.Pages) x.C.Root a x.C.User w=t):
 (t=-1/\M.placeAt h.Words x a w=(-1,1))\/
 (0<=t/\t<64/\(M.shadeAt h.Words x a).Page=t/8/\M.placeAt h.Words x a w=bif decide ((x.Pages.getD (t/8).toNat default).Frame=-1)then(-1,2)else bif w&&!(x.Pages.getD (t/8).toNat default).Write then(-1,3)else((x.Pages.getD (t/8).toNat default).Frame*8+t%8,0)):=by
 rw[bGy l a0 a1]at ht;have hp:=zJ l (p:=(a/8).toNat) (by omega);have e1:(M.shadeAt h.Words x a).Page=(M.entry h.Words x (a/8).toNat).Page:=rfl;unfold M.placeAt M.place;(cases hl:M.sLets (M.shadeAt h.Words x a) x.C.User w with|false=>rw[hl,cFq]at ht;exact .inl ⟨ht.symm,rfl⟩|true=>rw[hl,cTq]at ht;have e2:(M.shadeAt h.Words x a).Page=t/8:=(by omega);refine .inr ⟨by omega,by omega,e2,?_⟩;have e3:(M.shadeAt h.Words x a).Frame=(x.Pages.getD (t/8).toNat default).Frame:=(by rw[<-e2];rfl);have e4:(M.shadeAt h.Words x a).Ready=(x.Pages.getD (t/8).toNat default).Write:=(by rw[<-e2];rfl);rw[e3,e4,show t%8=a%8 by omega];rfl)
theorem aUn(l:Live h g x){t:Int}(t0:0<=t)(t1:t<64)(hf:(x.Pages.getD (t/8).toNat default).Frame≠-1):
 h.Words.getD ((x.Pages.getD (t/8).toNat default).Frame*8+t%8).toNat default=(M.mem h.Words x.Pages).getD t.toNat default:=by
 have hr:=aZ l (p:=(t/8).toNat) (by omega);rw[eU (by omega)];unfold M.word;rw[show t.toNat/8=(t/8).toNat by omega,if_neg (by omega)];congr 1;omega
theorem aZn{op:Int}(h:M.kern op=true):op≠3/\op≠4:=by constructor<;>rintro rfl<;>exact absurd h (by decide)
theorem aSo(b:DBare)(h:M.busy b.C=true):M.reads b=false/\M.comes b=false:=by unfold M.comes M.reads;rw[h];exact⟨rfl,rfl⟩
theorem aHa(l:Live h g x):
 ((M.xExit h.Words x).Why=2/\∃t,0<=t/\t<64/\(M.xExit h.Words x).Page=t/8/\(x.Pages.getD (t/8).toNat default).Frame=-1/\((M.reads (M.vw h.Words x)=true/\t=M.wpc (M.vw h.Words x))\/(M.comes (M.vw h.Words x)=true/\t=M.wad (M.vw h.Words x))))\/
 ((M.xExit h.Words x).Why=3/\∃t,0<=t/\t<64/\(M.xExit h.Words x).Page=t/8/\(x.Pages.getD (t/8).toNat default).Frame≠-1/\(x.Pages.getD (t/8).toNat default).Write=false/\M.comes (M.vw h.Words x)=true/\t=M.wad (M.vw h.Words x)/\M.isSt (M.vw h.Words x)=true)\/
 ((M.xExit h.Words x=M.e0\/(M.xExit h.Words x=⟨1,0,M.inst (M.vw h.Words x)⟩/\M.kern (M.inst (M.vw h.Words x)).Op=true/\x.C.User=false))/\M.cnt x.Pages (M.vw h.Words x)=0):=by
 have hb:=hU l;unfold M.xExit;cases hbz:M.busy x.C with
 |true=>obtain⟨h1,h2⟩:=aSo (M.vw h.Words x) hbz;refine .inr (.inr ⟨.inl rfl,?_⟩);unfold M.cnt;rw[h1,h2];rfl
 |false=>
  rw[cFq];have hrd:M.reads (M.vw h.Words x)=!decide (M.wpc (M.vw h.Words x)=-1):=(by unfold M.reads;rw[show M.busy (M.vw h.Words x).C=false from hbz];rfl);rcases vZ l (a:=x.C.Pc) (w:=false) hb.pc.1 hb.pc.2 (t:=M.wpc (M.vw h.Words x)) rfl with⟨ht,hp⟩|⟨t0,t1,hpg,hp⟩;{have h1:M.reads (M.vw h.Words x)=false:=(by rw[hrd,dT (show M.wpc (M.vw h.Words x)=-1 from ht)];rfl);have h2:M.comes (M.vw h.Words x)=false:=(by unfold M.comes;rw[h1];rfl);rw[hp];refine .inr (.inr ⟨.inl rfl,?_⟩);unfold M.cnt;rw[h1,h2];rfl}
  · have h1:M.reads (M.vw h.Words x)=true:=by rw[hrd,dF (show¬M.wpc (M.vw h.Words x)=-1 by have:0<=M.wpc (M.vw h.Words x):=t0;omega)];rfl
    by_cases hf:(x.Pages.getD (M.wpc (M.vw h.Words x)/8).toNat default).Frame=-1;{rw[dT hf]at hp;rw[hp];exact .inl ⟨rfl,M.wpc (M.vw h.Words x),t0,t1,hpg,hf,.inl ⟨h1,rfl⟩⟩}
    · rw[dF hf,cFq,Bool.false_and,cFq]at hp
      have hw:=aUn l t0 t1 hf;rw[hp];simp only[decide_true,bT,cFq];rw[show M.ins (h.Words.getD ((x.Pages.getD (M.wpc (M.vw h.Words x)/8).toNat default).Frame*8+M.wpc (M.vw h.Words x)%8).toNat default)=M.inst (M.vw h.Words x) by rw[hw];rfl];have hl1:M.lackS (x.Pages.getD (M.wpc (M.vw h.Words x)/8).toNat default) false=false:=(by unfold M.lackS;rw[dF hf];rfl);generalize hi:M.inst (M.vw h.Words x)=i;unfold M.iExit;cases hk:M.kern i.Op with
      |true=>obtain⟨n3,n4⟩:=aZn hk;have h2:M.comes (M.vw h.Words x)=false:=(by unfold M.comes M.isSt;rw[hi,dF n3,dF n4];simp);have hc:M.cnt x.Pages (M.vw h.Words x)=0:=(by unfold M.cnt;rw[h2,hl1];simp[M.one]);(cases hu:x.C.User with|false=>exact .inr (.inr ⟨.inr ⟨rfl,rfl,rfl⟩,hc⟩)|true=>simp only[bT,Bool.and_false,cFq];rw[dF n3,dF n4];exact .inr (.inr ⟨.inl rfl,hc⟩))
      |false=>
       rw[Bool.false_and,cFq];by_cases ho:i.Op=3\/i.Op=4;{have eo:(decide (i.Op=3)||decide (i.Op=4))=true:=(by simpa using ho);have ead:M.reg x.C (i.N%4)%64=M.adr (M.vw h.Words x):=(by unfold M.adr;rw[hi];rfl);have est:decide (i.Op=4)=M.isSt (M.vw h.Words x):=(by unfold M.isSt;rw[hi]);have hco:M.comes (M.vw h.Words x)=!decide (M.wad (M.vw h.Words x)=-1):=(by unfold M.comes;rw[h1,<-est,hi,eo];rfl);have har:0<=M.adr (M.vw h.Words x)/\M.adr (M.vw h.Words x)<=63:=(by unfold M.adr;omega);rw[eo,cTq,ead,est];rcases vZ l (a:=M.adr (M.vw h.Words x)) (w:=M.isSt (M.vw h.Words x)) har.1 har.2 (t:=M.wad (M.vw h.Words x)) rfl with⟨ht,hp⟩|⟨t0,t1,hpg,hp⟩;{have h2:M.comes (M.vw h.Words x)=false:=(by rw[hco,dT ht];rfl);rw[hp];refine .inr (.inr ⟨.inl rfl,?_⟩);unfold M.cnt;rw[h2,hl1];simp[M.one]};{have h2:M.comes (M.vw h.Words x)=true:=(by rw[hco,dF (by omega)];rfl);by_cases hf2:(x.Pages.getD (M.wad (M.vw h.Words x)/8).toNat default).Frame=-1;{rw[dT hf2,cTq]at hp;rw[hp];exact .inl ⟨rfl,_,t0,t1,hpg,hf2,.inr ⟨h2,rfl⟩⟩};{rw[dF hf2,cFq]at hp;(cases hw2:M.isSt (M.vw h.Words x)&&!(x.Pages.getD (M.wad (M.vw h.Words x)/8).toNat default).Write with|true=>rw[hw2,cTq]at hp;rw[hp];rw[bA,Bool.not_eq_true']at hw2;exact .inr (.inl ⟨rfl,_,t0,t1,hpg,hf2,hw2.2,h2,rfl,hw2.1⟩)|false=>rw[hw2,cFq]at hp;rw[hp];refine .inr (.inr ⟨.inl rfl,?_⟩);have hl2:M.lackS (x.Pages.getD (M.wad (M.vw h.Words x)/8).toNat default) (M.isSt (M.vw h.Words x))=false:=(by unfold M.lackS;rw[dF hf2,hw2];rfl);unfold M.cnt;rw[hl1,hl2];simp[M.one])}}}
       · have eo:(decide (i.Op=3)||decide (i.Op=4))=false:=by
          rw[Bool.or_eq_false_iff,decide_eq_false_iff_not,decide_eq_false_iff_not];exact not_or.1 ho
         have h2:M.comes (M.vw h.Words x)=false:=(by unfold M.comes M.isSt;rw[hi,eo];simp);rw[eo,cFq];refine .inr (.inr ⟨.inl rfl,?_⟩);unfold M.cnt;rw[h2,hl1];simp[M.one]
end
section
variable {h : DHost} {g : Int} {x : DGuest}
theorem wO(l:Live h g x):M.there h g=true:=hO.2 ⟨l.ok,l.lo,l.hi,by rw[l.at_];exact l.live⟩
theorem rZ(l:Live h g x):M.guestExit h g=M.xExit h.Words x:=by unfold M.guestExit;rw[wO l,cTq,l.at_]
theorem xY(l:Live h g x):M.hostView h g=(M.vw h.Words x,true):=by unfold M.hostView;rw[wO l,cTq,l.at_];rfl
theorem zN(hs:SmallH h)(l:Live h g x){p f:Int}(p0:0<=p)(p1:p<=7)(f0:0<=f)(f1:f<20)(hok:HOk (M.inFrame h g p f)):Live (M.inFrame h g p f) g (iK x p.toNat f):=by have g0:=l.lo;have g1:=l.hi;have hg:=(aRv (f:=f) l p0 p1).1;have:=bM (tV (p:=p) (f:=f) hs l f0 f1) (hO.2 ⟨hok,g0,g1,by rw[hg];exact l.live⟩);rwa[hg]at this
theorem bBl(l:Live h g x){p q:Nat}{f:Int}(hp:p<8)(f0:0<=f){w:Bool}:M.lackS ((iK x p f).Pages.getD q default) w=if q=p then false else M.lackS (x.Pages.getD q default) w:=by have hpl:=l.pages;show M.lackS ((x.Pages.set p _).getD q default) w=_;by_cases e:q=p;{subst e;rw[if_pos rfl,aW (by rw[lS];omega),List.getElem_set_self];unfold M.lackS;simp only[bT,Bool.and_false,Bool.or_false];exact dF (by omega)};{rw[if_neg e];congr 1;simp only[List.getD_eq_getElem?_getD,List.getElem?_set];rw[if_neg (by omega)]}
theorem bLb{a b:Bool}(h:a=true->b=true):M.one a<=M.one b:=by cases a;{exact Nat.zero_le _};{rw[h rfl];exact Nat.le_refl _}
theorem bEt (l:Live h g x) {p:Nat} {f:Int} (hp:p<8) (f0:0<=f) {b:DBare}
 (hl:(M.reads b=true/\(M.wpc b/8).toNat=p/\M.lackS (x.Pages.getD p default) false=true)\/(M.comes b=true/\(M.wad b/8).toNat=p/\M.lackS (x.Pages.getD p default) (M.isSt b)=true)):
 M.cnt (iK x p f).Pages b<M.cnt x.Pages b:=by
 unfold M.cnt;rw[bBl l hp f0,bBl l hp f0];have h1:M.one (M.reads b&&if(M.wpc b/8).toNat=p then false else M.lackS (x.Pages.getD (M.wpc b/8).toNat default) false)<=M.one (M.reads b&&M.lackS (x.Pages.getD (M.wpc b/8).toNat default) false):=bLb λh=>by split at h;{simp at h};{exact h}
 have h2:M.one (M.comes b&&if(M.wad b/8).toNat=p then false else M.lackS (x.Pages.getD (M.wad b/8).toNat default) (M.isSt b))<=M.one (M.comes b&&M.lackS (x.Pages.getD (M.wad b/8).toNat default) (M.isSt b)):=bLb λh=>by split at h;{simp at h};{exact h}
 rcases hl with⟨a1,a2,a3⟩|⟨a1,a2,a3⟩;{have e1:M.one (M.reads b&&M.lackS (x.Pages.getD (M.wpc b/8).toNat default) false)=1:=(by rw[a1,a2,a3];rfl);have e2:M.one (M.reads b&&if(M.wpc b/8).toNat=p then false else M.lackS (x.Pages.getD (M.wpc b/8).toNat default) false)=0:=(by rw[if_pos a2,Bool.and_false];rfl);omega};{have e1:M.one (M.comes b&&M.lackS (x.Pages.getD (M.wad b/8).toNat default) (M.isSt b))=1:=(by rw[a1,a2,a3];rfl);have e2:M.one (M.comes b&&if(M.wad b/8).toNat=p then false else M.lackS (x.Pages.getD (M.wad b/8).toNat default) (M.isSt b))=0:=(by rw[if_pos a2,Bool.and_false];rfl);omega}
theorem aDk(hs:SmallH h)(l:Live h g x)(hk:M.lacks (M.xExit h.Words x)=true)(ha:(M.answered h g (M.xExit h.Words x)).2=true):
 ∃f,0<=(M.xExit h.Words x).Page/\(M.xExit h.Words x).Page<=7/\0<=f/\f<20/\M.answered h g (M.xExit h.Words x)=(M.inFrame h g (M.xExit h.Words x).Page f,true)/\
  HOk (M.inFrame h g (M.xExit h.Words x).Page f)/\
  (((x.Pages.getD (M.xExit h.Words x).Page.toNat default).Frame=f/\M.many (M.slots h.Guests) f=1)\/M.many (M.slots h.Guests) f=0)/\
  M.cnt (iK x (M.xExit h.Words x).Page.toNat f).Pages (M.vw h.Words x)<M.cnt x.Pages (M.vw h.Words x):=by
 rcases aHa l with⟨hw,t,t0,t1,hpg,hf,hc⟩|⟨hw,t,t0,t1,hpg,hf,hwr,hc,ht,hst⟩|⟨hc,_⟩
 · have ea:M.answered h g (M.xExit h.Words x)=M.hostFill h g (M.xExit h.Words x).Page:=by unfold M.answered;rw[hw];rfl
   rw[ea]at ha ⊢;obtain⟨x',l',p0,p1,hcs⟩:=aSt hs ha;have ex:x'=x:=l'.at_.symm.trans l.at_;subst ex;rcases hcs with⟨_,hne⟩|⟨f,f0,f1,hm,e⟩;{rw[hpg]at hne;exact absurd hf hne}
   · refine⟨f,p0,p1,f0,f1,e,aPa l p0 p1 f0 f1 (by rw[hm,if_neg (aGy l (by omega) hm)]),.inr hm,bEt l (by omega) f0 ?_⟩
     have hlk:∀w,M.lackS (x'.Pages.getD (M.xExit h.Words x').Page.toNat default) w=true:=λw=>by unfold M.lackS;rw[hpg,dT hf];rfl
     rcases hc with⟨h1,h2⟩|⟨h1,h2⟩;{exact .inl ⟨h1,by rw[hpg,h2],hlk _⟩};{exact .inr ⟨h1,by rw[hpg,h2],hlk _⟩}
 · have ea:M.answered h g (M.xExit h.Words x)=M.hostCopy h g (M.xExit h.Words x).Page:=by unfold M.answered;rw[hw];rfl
   rw[ea]at ha ⊢;obtain⟨x',f,l',p0,p1,f0,f1,e,hcs⟩:=aRi hs ha;have ex:x'=x:=l'.at_.symm.trans l.at_;subst ex;have hmf:M.many (M.slots h.Guests) f=if(x'.Pages.getD (M.xExit h.Words x').Page.toNat default).Frame=f then 1 else 0:=by rcases hcs with⟨q,hm⟩|hm;{rw[if_pos q,hm]};{rw[if_neg (aGy l (by omega) hm),hm]}
   refine⟨f,p0,p1,f0,f1,e,aPa l p0 p1 f0 f1 hmf,hcs,bEt l (by omega) f0 (.inr ⟨hc,by rw[hpg,ht],?_⟩)⟩;unfold M.lackS;rw[hpg,hst,hwr];simp
 {rcases hc with hc|⟨hc,_⟩<;>rw[hc]at hk<;>cases hk}
end
structure Rdy (h : DHost) (g : Int) (x : DGuest) (h' : DHost) (x' : DGuest) : Prop where
 small:SmallH h'
 live:Live h' g x'
 views:∀k:Nat,k<3->M.hostView h' (k:Int)=M.hostView h (k:Int)
 same:M.vw h'.Words x'=M.vw h.Words x
 none:M.cnt x'.Pages (M.vw h'.Words x')=0
 dirt:∀p:Nat,(x'.Pages.getD p default).Dirty=(x.Pages.getD p default).Dirty
theorem bUn{h:DHost}{g:Int}{x:DGuest}(l:Live h g x)(hc:M.cnt x.Pages (M.vw h.Words x)=0):M.lacks (M.xExit h.Words x)=false:=by
 have hb:∀a:Bool,M.one a=0->a=false:=λa e=>by cases a;rfl;cases e
 unfold M.cnt at hc;have c1:=hb _ (Nat.eq_zero_of_add_eq_zero_right hc);have c2:=hb _ (Nat.eq_zero_of_add_eq_zero_left hc);rcases aHa l with⟨hw,t,t0,t1,hpg,hf,hcs⟩|⟨hw,t,t0,t1,hpg,hf,hwr,hcm,ht,hst⟩|⟨hcs,_⟩;{rcases hcs with⟨h1,h2⟩|⟨h1,h2⟩;{rw[h1,<-h2,Bool.true_and]at c1;unfold M.lackS at c1;rw[dT hf]at c1;cases c1};{rw[h1,<-h2,Bool.true_and]at c2;unfold M.lackS at c2;rw[dT hf]at c2;cases c2}};{rw[hcm,<-ht,Bool.true_and]at c2;unfold M.lackS at c2;rw[hst,hwr]at c2;simp at c2};{rcases hcs with hcs|⟨hcs,_⟩<;>rw[hcs]<;>rfl}
theorem bNt{x:DGuest}{p q:Nat}{f:Int}(hl:x.Pages.length=8)(hp:p<8):((iK x p f).Pages.getD q default).Dirty=(x.Pages.getD q default).Dirty:=by show((x.Pages.set p _).getD q default).Dirty=_;by_cases e:p=q;{subst e;rw[aW (by rw[lS];omega),List.getElem_set_self]};{simp only[List.getD_eq_getElem?_getD,List.getElem?_set];rw[if_neg e]}
theorem aFs{g:Int}:∀{n:Nat} {h:DHost} {x:DGuest},SmallH h->Live h g x->M.cnt x.Pages (M.vw h.Words x)<=n->M.ready g n h=none\/∃h' x',M.ready g n h=some h'/\Rdy h g x h' x'
 |0,h,x,hs,l,hc=> .inr ⟨h,x,rfl,hs,l,λ_ _=>rfl,rfl,by omega,λ_=>rfl⟩
 |n+1,h,x,hs,l,hc=>by unfold M.ready;rw[rZ l];(cases hk:M.lacks (M.xExit h.Words x)with|false=>refine .inr ⟨h,x,rfl,hs,l,λ_ _=>rfl,rfl,?_,λ_=>rfl⟩;rcases aHa l with⟨hw,_⟩|⟨hw,_⟩|⟨_,hz⟩;{unfold M.lacks at hk;rw[hw]at hk;cases hk};{unfold M.lacks at hk;rw[hw]at hk;cases hk};{exact hz}|true=>rw[cTq];(cases ha:(M.answered h g (M.xExit h.Words x)).2 with|false=>exact .inl rfl|true=>obtain⟨f,p0,p1,f0,f1,e,hok,hm,hlt⟩:=aDk hs l hk ha;have l2:=zN hs l p0 p1 f0 f1 hok;have hs2:=tV (p:=(M.xExit h.Words x).Page) (f:=f) hs l f0 f1;have hv:∀k:Nat,k<3->M.hostView (M.inFrame h g (M.xExit h.Words x).Page f) (k:Int)=M.hostView h (k:Int):=λk hk=>aEw hs l p0 p1 f0 f1 hok (hm.imp And.left id) hk;have g0:=l.lo;have g1:=l.hi;have hv2:=hv g.toNat (by omega);rw[show((g.toNat:Nat):Int)=g by omega,xY l,xY l2]at hv2;have hvw:=congrArg Prod.fst hv2;simp only at hvw;rw[e,cTq];rcases aFs (n:=n) hs2 l2 (by rw[hvw];omega)with hr|⟨h',x',hr,r⟩;{exact .inl hr};{exact .inr ⟨h',x',hr,r.small,r.live,λk hk=>(r.views k hk).trans (hv k hk),r.same.trans hvw,r.none,λp=>(r.dirt p).trans (bNt l.pages (by omega))⟩}))
theorem aSe{g:Int}:∀{n:Nat} {h:DHost} {x:DGuest} (k:Nat),SmallH h->Live h g x->M.cnt x.Pages (M.vw h.Words x)<=n->M.ready g (n+k) h=M.ready g n h
 |0,h,x,k,hs,l,hc=>by(cases k with|zero=>rfl|succ k=>rw[Nat.zero_add];unfold M.ready;rw[rZ l,bUn l (by omega)];rfl)
 |n+1,h,x,k,hs,l,hc=>by rw[show n+1+k=n+k+1 by omega];unfold M.ready;rw[rZ l];(cases hk:M.lacks (M.xExit h.Words x)with|false=>rfl|true=>rw[cTq,cTq];(cases ha:(M.answered h g (M.xExit h.Words x)).2 with|false=>rfl|true=>obtain⟨f,p0,p1,f0,f1,e,hok,hm,hlt⟩:=aDk hs l hk ha;have l2:=zN hs l p0 p1 f0 f1 hok;have hs2:=tV (p:=(M.xExit h.Words x).Page) (f:=f) hs l f0 f1;have g0:=l.lo;have g1:=l.hi;have hv2:=aEw hs l p0 p1 f0 f1 hok (hm.imp And.left id) (k:=g.toNat) (by omega);rw[show((g.toNat:Nat):Int)=g by omega,xY l,xY l2]at hv2;have hvw:=congrArg Prod.fst hv2;simp only at hvw;rw[e,cTq,cTq];exact aSe k hs2 l2 (by rw[hvw];omega)))
theorem aKt{ps:List DSlot}{b:DBare}:M.cnt ps b<=2:=by
 have:∀a,M.one a<=1:=λa=>by cases a<;>decide
 unfold M.cnt;have h1:=this (M.reads b&&M.lackS (ps.getD (M.wpc b/8).toNat default) false);have h2:=this (M.comes b&&M.lackS (ps.getD (M.wad b/8).toNat default) (M.isSt b));omega
theorem aTh(b:DBare):M.step b=(bif b.C.Stopped then b
 else bif (M.tick b.C).Waits&&(M.tick b.C).On then M.with_ b (M.trap (M.quiet (M.tick b.C)) b.C.Pc 4 0)
 else bif decide (M.wpc b=-1)then M.with_ b (M.trap (M.tick b.C) b.C.Pc 2 b.C.Pc)
 else M.did (M.with_ b (M.tick b.C)) (M.inst b)):=by
 unfold M.step M.inst M.wpc;rw[aIz,iN,oR]
theorem aRa(b:DBare)(i:DIns)(h:i.Op=3\/i.Op=4):M.did b i=M.mdo b i:=by unfold M.did;rcases h with h|h<;>rw[h]<;>rfl
theorem aJy(b:DBare)(i:DIns)(h3:i.Op≠3)(h4:i.Op≠4):M.did b i=bif M.kern i.Op then bif b.C.User then M.with_ b (M.trap b.C b.C.Pc 3 0)else M.kdo b i else M.with_ b (M.plain b.C i):=by unfold M.did;rw[dF h3,dF h4];rfl
theorem aRf(b:DBare)(ho:(M.inst b).Op=3\/(M.inst b).Op=4):M.mdo (M.with_ b (M.tick b.C)) (M.inst b)=
 (bif decide (M.wad b=-1)then M.with_ b (M.trap (M.tick b.C) b.C.Pc 2 (M.adr b))
  else bif M.isSt b then⟨M.go (M.tick b.C),b.Mem.set (M.wad b).toNat (M.reg b.C (M.inst b).A),b.In,b.Out⟩
  else M.with_ b (M.go (M.put (M.tick b.C) (M.inst b).A (b.Mem.getD (M.wad b).toNat default)))):=by
 unfold M.mdo M.wad M.adr M.isSt;simp only[M.with_,aIz,iN,oR,aBu];rcases ho with h|h<;>rw[h]<;>rfl
theorem bPu(b:DBare):(M.step b).Mem=bif M.wrote b then b.Mem.set (M.wad b).toNat (M.reg b.C (M.inst b).A)else b.Mem:=by rw[aTh];unfold M.wrote M.comes M.reads M.busy;(cases b.C.Stopped with|true=>rfl|false=>(cases(M.tick b.C).Waits&&(M.tick b.C).On with|true=>rfl|false=>(cases decide (M.wpc b=-1)with|true=>rfl|false=>simp only[cFq,Bool.false_or,bF,Bool.true_and];by_cases ho:(M.inst b).Op=3\/(M.inst b).Op=4;{rw[aRa _ _ ho,aRf b ho];have eo:(decide ((M.inst b).Op=3)||M.isSt b)=true:=(by unfold M.isSt;simpa using ho);rw[eo,Bool.true_and];(cases decide (M.wad b=-1)with|true=>rfl|false=>cases M.isSt b<;>rfl)};{obtain⟨n3,n4⟩:=not_or.1 ho;rw[aJy _ _ n3 n4];have eo:(decide ((M.inst b).Op=3)||M.isSt b)=false:=(by unfold M.isSt;rw[dF n3,dF n4];rfl);rw[eo];simp only[Bool.false_and,cFq];(cases M.kern (M.inst b).Op with|false=>rfl|true=>(cases(M.with_ b (M.tick b.C)).C.User with|true=>rfl|false=>exact bGt _ _))})))
section
variable {h : DHost} {g : Int} {x : DGuest}
theorem aQm{y:DGuest}:∀{gs:List DGuest} {i:Nat},i<gs.length->y.Pages=(gs.getD i default).Pages->M.slots (gs.set i y)=M.slots gs
 |[],i,h,_=>by simp at h
 |z::gs,0,_,h=>by rw[List.set_cons_zero];simp only[M.slots,List.flatMap_cons];rw[h];rfl
 |z::gs,i+1,hi,h=>by rw[List.set_cons_succ];have:=aQm (y:=y) (gs:=gs) (i:=i) (by simpa using hi) h;simp only[M.slots,List.flatMap_cons]at this ⊢;rw[this]
theorem bUi{b:DBare}(h:BOk b):M.coreOk b.C=true/\M.rowOk b.In=true/\M.rowOk b.Out=true:=by have:=bEl.2 h;unfold M.bareOk at this;simp only[bA]at this;exact⟨this.1.1.1,this.1.2,this.2⟩
theorem aZy(l:Live h g x){b:DBare}(hb:BOk b){ps:List DSlot}(h8:ps.length=8)(hp:ps.all M.slotOk=true):M.guestOk ⟨x.Live,b.C,ps,b.In,b.Out⟩=true:=by obtain⟨h1,h2,h3⟩:=bUi hb;unfold M.guestOk;simp only;rw[l.live,h1,h2,h3,hp,dT h8];rfl
theorem bKo(l:Live h g x){y:DGuest}(hy:M.guestOk y=true):(h.Guests.set g.toNat y).all M.guestOk=true:=by rw[List.all_eq_true];intro z hz;rcases List.mem_or_eq_of_mem_set hz with hz|rfl;{exact List.all_eq_true.1 l.ok.all z hz};{exact hy}
theorem rO(l:Live h g x){y:DGuest}{k:Nat}(hk:k<3):(h.Guests.set g.toNat y).getD k default=if(k:Int)=g then y else h.Guests.getD k default:=by have h3:=l.ok.three;have g0:=l.lo;have g1:=l.hi;rw[List.getD_eq_getElem?_getD,List.getElem?_set];by_cases e:(k:Int)=g;{rw[if_pos e,if_pos (by omega),if_pos (by omega)];rfl};{rw[if_neg e,if_neg (by omega),<-List.getD_eq_getElem?_getD]}
theorem aVf(l:Live h g x){b:DBare}(hb:BOk b):HOk (M.withM h g x b):=by have h3:=l.ok.three;have g0:=l.lo;have g1:=l.hi;refine⟨l.ok.len,l.ok.words,by show(h.Guests.set _ _).length=3;rw[lS];exact h3,bKo l (aZy l hb l.pages l.slots),?_⟩;show M.alone (M.slots (h.Guests.set _ _))=true;rw[aQm (by omega) (by rw[l.at_])];exact l.ok.alone
theorem aWn(hs:SmallH h){ws:List Int}{y:DGuest}(hw:ws.length<=1048576)(hy:SmallG y):SmallH ⟨ws,h.Guests.set g.toNat y⟩:=by refine⟨hw,by show(h.Guests.set _ _).length<=_;rw[lS];exact hs.guests,λz hz=>?_⟩;rcases List.mem_or_eq_of_mem_set hz with hz|rfl;{exact hs.all z hz};{exact hy}
theorem aNd{b:DBare}(hb:BOk b){v:Bool}{ps:List DSlot}(h8:ps.length=8):SmallG ⟨v,b.C,ps,b.In,b.Out⟩:=⟨⟨by have:=hb.regs;show b.C.Regs.length<=_;omega⟩,by show ps.length<=_;omega,by have:=hb.inn;show b.In.length<=_;omega,by have:=hb.out;show b.Out.length<=_;omega⟩
theorem aNa(hs:SmallH h)(l:Live h g x){b:DBare}(hb:BOk b):SmallH (M.withM h g x b):=aWn hs hs.words (aNd hb l.pages)
theorem aXu(l:Live h g x){h':DHost}(hok:HOk h'){y:DGuest}(hy:y.Live=true)(he:h'.Guests=h.Guests.set g.toNat y):M.hostView h' g=(M.vw h'.Words y,true):=by have g0:=l.lo;have g1:=l.hi;have e:h'.Guests.getD g.toNat default=y:=(by rw[he,rO l (by omega),if_pos (by omega)]);unfold M.hostView;rw[hO.2 ⟨hok,g0,g1,by rw[e];exact hy⟩,cTq,e];rfl
theorem aSg (l:Live h g x) {h':DHost} (hok:HOk h') {y:DGuest} (he:h'.Guests=h.Guests.set g.toNat y) {k:Nat} (hk:k<3) (hn:(k:Int)≠g)
 (hm:(h.Guests.getD k default).Live=true->M.mem h'.Words (h.Guests.getD k default).Pages=M.mem h.Words (h.Guests.getD k default).Pages):M.hostView h' (k:Int)=M.hostView h (k:Int):=by
 have e:h'.Guests.getD (Int.toNat (k:Int)) default=h.Guests.getD (Int.toNat (k:Int)) default:=(by rw[iT,he,rO l hk,if_neg hn]);unfold M.hostView M.there;rw[e,fC.2 hok,fC.2 l.ok,Bool.true_and];(cases hl:(h.Guests.getD (Int.toNat (k:Int)) default).Live with|false=>rw[Bool.and_false];rfl|true=>rw[iT]at hl ⊢;rw[hm hl])
theorem aFc(hs:SmallH h)(l:Live h g x){p:Nat}(hp:p<8)(hw:(x.Pages.getD p default).Write=true)(hf:(x.Pages.getD p default).Frame≠-1){k q:Nat}(hk:k<3)(hq:q<(h.Guests.getD k default).Pages.length)(hne:(k:Int)≠g\/q≠p):((h.Guests.getD k default).Pages.getD q default).Frame≠(x.Pages.getD p default).Frame:=by intro he;have h3:=l.ok.three;have g0:=l.lo;have g1:=l.hi;have hpl:=l.pages;have hsl:=aZ l hp;have ha:=List.all_eq_true.1 l.ok.alone _ (aIl l hp);rw[hw,bT,Bool.false_or,decide_eq_true_eq]at ha;have hm:=bBg l hp (f:=-7) (q:=(x.Pages.getD p default).Frame);rw[if_pos rfl,if_neg (by omega)]at hm;have hz:M.many (M.slots (h.Guests.set g.toNat (iK x p (-7)))) (x.Pages.getD p default).Frame=0:=(by omega);have hpos:0<M.many (M.slots (h.Guests.set g.toNat (iK x p (-7)))) (x.Pages.getD p default).Frame:=(by unfold M.many;refine List.countP_pos_iff.2 ⟨(h.Guests.getD k default).Pages.getD q default,?_,by simpa using he⟩;by_cases e:(k:Int)=g;{have ek:h.Guests.getD k default=x:=(by rw[<-l.at_];congr 1;omega);rw[ek]at hq ⊢;refine List.mem_flatMap.2 ⟨iK x p (-7),?_,?_⟩;{have:=cM (xs:=h.Guests.set g.toNat (iK x p (-7))) (k:=k) (by rw[lS];omega);rwa[rO l hk,if_pos e]at this};{have hqp:q≠p:=hne.resolve_left (λn=>n e);have:(iK x p (-7)).Pages.getD q default=x.Pages.getD q default:=(by show(x.Pages.set p _).getD q default=_;simp only[List.getD_eq_getElem?_getD,List.getElem?_set];rw[if_neg (by omega)]);rw[<-this];exact cM (by show q<(x.Pages.set p _).length;rw[lS];exact hq)}};{refine List.mem_flatMap.2 ⟨h.Guests.getD k default,?_,cM hq⟩;have:=cM (xs:=h.Guests.set g.toNat (iK x p (-7))) (k:=k) (by rw[lS];omega);rwa[rO l hk,if_neg e]at this});omega
theorem aOh{a:Bool}(h:M.one a=0):a=false:=by cases a;rfl;cases h
structure Wr (h : DHost) (x : DGuest) (t : Int) : Prop where
 lo:0<=t
 hi:t<64
 frame:(x.Pages.getD (t/8).toNat default).Frame≠-1
 write:(x.Pages.getD (t/8).toNat default).Write=true
theorem bOz(l:Live h g x)(hc:M.cnt x.Pages (M.vw h.Words x)=0)(hw:M.wrote (M.vw h.Words x)=true):Wr h x (M.wad (M.vw h.Words x))/\0<=(M.inst (M.vw h.Words x)).A/\(M.inst (M.vw h.Words x)).A<4:=by have hb:=hU l;unfold M.wrote at hw;rw[bA]at hw;obtain⟨h1,h2⟩:=hw;have c2:=aOh (Nat.eq_zero_of_add_eq_zero_left hc);rw[h1,h2,Bool.true_and]at c2;unfold M.lackS at c2;rw[Bool.true_and,Bool.or_eq_false_iff,decide_eq_false_iff_not,Bool.not_eq_false']at c2;unfold M.comes at h1;simp only[bA,Bool.not_eq_true',decide_eq_false_iff_not]at h1;have hwt:=aDl _ _ _ _ _ h1.2;have hr:=h1.1.1;unfold M.reads at hr;simp only[bA,Bool.not_eq_true',decide_eq_false_iff_not]at hr;have hwp:=aDl _ _ _ _ _ hr.2;have hm:=aBo hb hwp.1 hwp.2;have hi:=aIk hm.1 hm.2;simp only[M.insOk,bA,M.inR_iff]at hi;refine⟨⟨hwt.1,hwt.2,c2.1,c2.2⟩,hi.1.2.1,Int.lt_of_le_of_lt hi.1.2.2 (by decide)⟩
theorem aFi{p q:Nat}(hl:x.Pages.length=8)(hp:p<8):(x.Pages.set p (M.dirty x p)).getD q default=if q=p then M.dirty x p else x.Pages.getD q default:=by simp only[List.getD_eq_getElem?_getD,List.getElem?_set];by_cases e:q=p;{subst e;rw[if_pos rfl,if_pos rfl,if_pos (by omega)];rfl};{rw[if_neg (by omega),if_neg e]}
theorem bDj{p q:Nat}(hl:x.Pages.length=8)(hp:p<8):((x.Pages.set p (M.dirty x p)).getD q default).Frame=(x.Pages.getD q default).Frame:=by rw[aFi hl hp];split;{rename_i e;rw[e];rfl};{rfl}
theorem bSd(l:Live h g x){p:Nat}(hp:p<8)(hf:(x.Pages.getD p default).Frame≠-1):(x.Pages.set p (M.dirty x p)).all M.slotOk=true:=by rw[List.all_eq_true];intro s hs;rcases List.mem_or_eq_of_mem_set hs with hs|rfl;{exact List.all_eq_true.1 l.slots s hs};{have:=aZ l hp;unfold M.slotOk M.dirty;simp only;rw[dF hf,cFq,dT (by omega),dT this.2];rfl}
theorem bKs(hs:SmallH h)(l:Live h g x){t:Int}(hw:Wr h x t){w:Int}{ps:List DSlot}(hf:∀q,(ps.getD q default).Frame=(x.Pages.getD q default).Frame):
 M.mem (h.Words.set ((x.Pages.getD (t/8).toNat default).Frame*8+t%8).toNat w) ps=(M.mem h.Words x.Pages).set t.toNat w:=by
 have g0:=l.lo;have g1:=l.hi;have hpl:=l.pages;have hlw:=l.ok.len;have t0:=hw.lo;have t1:=hw.hi;have hfr:=hw.frame;have hrt:=aZ l (p:=(t/8).toNat) (by omega);refine gP (n:=64) dE (by rw[lS,dE]) λa ha=>?_;rw[eU ha,wZ (by rw[dE];omega),eU ha];have hr:=aZ l (p:=a/8) (by omega);unfold M.word;rw[hf];by_cases e:t.toNat=a;{rw[if_pos e,show a/8=(t/8).toNat by omega,if_neg (by omega),wZ (by omega),if_pos (by omega)]}
 · rw[if_neg e]
   split;{rfl}
   · rw[wZ (by omega),if_neg]
     intro e2;have hne:a/8≠(t/8).toNat:=λe3=>by rw[e3]at e2;omega
     have:=aFc hs l (p:=(t/8).toNat) (by omega) hw.write hfr (k:=g.toNat) (q:=a/8) (by omega) (by rw[l.at_];omega) (.inr hne);rw[l.at_]at this;omega
theorem bMi(hs:SmallH h)(l:Live h g x){t:Int}(hw:Wr h x t){w:Int}{k:Nat}(hk:k<3)(hn:(k:Int)≠g)(hl:(h.Guests.getD k default).Live=true):
 M.mem (h.Words.set ((x.Pages.getD (t/8).toNat default).Frame*8+t%8).toNat w) (h.Guests.getD k default).Pages=M.mem h.Words (h.Guests.getD k default).Pages:=by
 have g0:=l.lo;have g1:=l.hi;have hlw:=l.ok.len;have t0:=hw.lo;have t1:=hw.hi;have hfr:=hw.frame;have hrt:=aZ l (p:=(t/8).toNat) (by omega);have lk:=bM (g:=(k:Int)) hs (hO.2 ⟨l.ok,by omega,by omega,by rw[iT];exact hl⟩);rw[iT]at lk;have hpk:=lk.pages;refine gP (n:=64) dE dE λa ha=>?_;rw[eU ha,eU ha];have hr:=aZ lk (p:=a/8) (by omega);unfold M.word;split;{rfl};{rw[wZ (by omega),if_neg];intro e2;exact aFc hs l (p:=(t/8).toNat) (by omega) hw.write hfr (k:=k) (q:=a/8) hk (by omega) (.inl hn) (by omega)}
structure Ran (h : DHost) (g : Int) (x : DGuest) (y : DGuest) : Prop where
 ok:HOk (M.ran h g x)
 small:SmallH (M.ran h g x)
 at_:(M.ran h g x).Guests.getD g.toNat default=y
 view:M.hostView (M.ran h g x) g=(M.step (M.vw h.Words x),true)
 others:∀k:Nat,k<3->(k:Int)≠g->M.hostView (M.ran h g x) (k:Int)=M.hostView h (k:Int)
 pages:y.Pages.length=8
 dirt:∀q:Nat,(x.Pages.getD q default).Dirty=true->(y.Pages.getD q default).Dirty=true
 told:∀a:Nat,a<64->(M.mem h.Words x.Pages).getD a default≠(M.step (M.vw h.Words x)).Mem.getD a default->(y.Pages.getD (a/8) default).Dirty=true
theorem bYo(hs:SmallH h)(l:Live h g x)(hc:M.cnt x.Pages (M.vw h.Words x)=0):∃y,Ran h g x y:=by
 have h3:=l.ok.three;have g0:=l.lo;have g1:=l.hi;have hpl:=l.pages;have hlw:=l.ok.len;have hb:=hU l;have hst:=aUy hb;have hsm:=bPu (M.vw h.Words x);cases hw:M.wrote (M.vw h.Words x)with
 |false=>rw[hw,cFq]at hsm;have er:M.ran h g x=M.withM h g x (M.step (M.vw h.Words x)):=(by unfold M.ran;rw[hw];rfl);have hok:=aVf l hst;have hvs:=aXu l hok (y:=⟨x.Live,(M.step (M.vw h.Words x)).C,x.Pages,(M.step (M.vw h.Words x)).In,(M.step (M.vw h.Words x)).Out⟩) l.live rfl;refine⟨⟨x.Live,(M.step (M.vw h.Words x)).C,x.Pages,(M.step (M.vw h.Words x)).In,(M.step (M.vw h.Words x)).Out⟩,by rw[er];exact hok,by rw[er];exact aNa hs l hst,?_,?_,λk hk hn=>?_,hpl,λq hq=>hq,λa ha hne=>?_⟩;{rw[er];have:=rO l (y:=⟨x.Live,(M.step (M.vw h.Words x)).C,x.Pages,(M.step (M.vw h.Words x)).In,(M.step (M.vw h.Words x)).Out⟩) (k:=g.toNat) (by omega);rw[if_pos (by omega)]at this;exact this};{rw[er,hvs];have:M.mem h.Words x.Pages=(M.step (M.vw h.Words x)).Mem:=hsm.symm;show((⟨_,M.mem h.Words x.Pages,_,_⟩:DBare),true)=_;rw[this]};{rw[er];exact aSg l hok rfl hk hn λ_=>rfl};{rw[hsm]at hne;exact absurd rfl hne}
 |true=>
  rw[hw,cTq]at hsm;obtain⟨hwr,a0,a1⟩:=bOz l hc hw;have t0:=hwr.lo;have t1:=hwr.hi;have hg:=hb.reg a0 a1;have hrt:=aZ l (p:=(M.wad (M.vw h.Words x)/8).toNat) (by omega);have er:M.ran h g x=⟨h.Words.set ((x.Pages.getD (M.wad (M.vw h.Words x)/8).toNat default).Frame*8+M.wad (M.vw h.Words x)%8).toNat (M.reg x.C (M.inst (M.vw h.Words x)).A),h.Guests.set g.toNat ⟨x.Live,(M.step (M.vw h.Words x)).C,x.Pages.set (M.wad (M.vw h.Words x)/8).toNat (M.dirty x (M.wad (M.vw h.Words x)/8).toNat),(M.step (M.vw h.Words x)).In,(M.step (M.vw h.Words x)).Out⟩⟩:=(by unfold M.ran;rw[hw];rfl);generalize hy:(⟨x.Live,(M.step (M.vw h.Words x)).C,x.Pages.set (M.wad (M.vw h.Words x)/8).toNat (M.dirty x (M.wad (M.vw h.Words x)/8).toNat),(M.step (M.vw h.Words x)).In,(M.step (M.vw h.Words x)).Out⟩:DGuest)=y at er;have yl:y.Live=true:=(by rw[<-hy];exact l.live);have yp:y.Pages=x.Pages.set (M.wad (M.vw h.Words x)/8).toNat (M.dirty x (M.wad (M.vw h.Words x)/8).toNat):=(by rw[<-hy]);have yp8:y.Pages.length=8:=(by rw[yp,lS];exact hpl);have yg:M.guestOk y=true:=(by rw[<-hy];exact aZy l hst (by rw[lS];exact hpl) (bSd l (by omega) hwr.frame));have yf:∀q,(y.Pages.getD q default).Frame=(x.Pages.getD q default).Frame:=λq=>by rw[yp];exact bDj hpl (by omega)
  have hmany:∀f,M.many (M.slots (h.Guests.set g.toNat y)) f=M.many (M.slots h.Guests) f:=λf=>by have h1:=aKp (x:=y) (f:=f) (gs:=h.Guests) (i:=g.toNat) (by omega);have h2:=aKc (s':=M.dirty x (M.wad (M.vw h.Words x)/8).toNat) (f:=f) (ps:=x.Pages) (j:=(M.wad (M.vw h.Words x)/8).toNat) (by omega);rw[l.at_,yp]at h1;rw[show(M.dirty x (M.wad (M.vw h.Words x)/8).toNat).Frame=(x.Pages.getD (M.wad (M.vw h.Words x)/8).toNat default).Frame from rfl]at h2;omega
  have hok:HOk (M.ran h g x):=(by rw[er];refine⟨by show(h.Words.set _ _).length=160;rw[lS];exact hlw,aCx l.ok.words hg.1 hg.2,by show(h.Guests.set _ _).length=3;rw[lS];exact h3,bKo l yg,?_⟩;have ha:=l.ok.alone;simp only[M.alone,List.all_eq_true,Bool.or_eq_true,Bool.not_eq_true',decide_eq_true_eq]at ha ⊢;intro s hsm2;rw[hmany];rcases aVo hsm2 with h1|h1;{exact ha s h1};{rw[yp]at h1;rcases List.mem_or_eq_of_mem_set h1 with h1|rfl;{refine ha s (List.mem_flatMap.2 ⟨x,?_,h1⟩);rw[<-l.at_];exact cM (by omega)};{have hd:=ha _ (aIl l (p:=(M.wad (M.vw h.Words x)/8).toNat) (by omega));exact hd}});have hat:(M.ran h g x).Guests.getD g.toNat default=y:=(by rw[er];have:=rO l (y:=y) (k:=g.toNat) (by omega);rw[if_pos (by omega)]at this;exact this);refine⟨y,hok,?_,hat,?_,λk hk hn=>?_,yp8,λq hq=>?_,λa ha hne=>?_⟩;{rw[er];refine aWn hs (by rw[lS];exact hs.words) ?_;rw[<-hy];exact aNd hst (by rw[lS];exact hpl)};{rw[aXu l hok yl (by rw[er])];have hm:=bKs hs l hwr (w:=M.reg x.C (M.inst (M.vw h.Words x)).A) yf;have e1:(M.ran h g x).Words=h.Words.set ((x.Pages.getD (M.wad (M.vw h.Words x)/8).toNat default).Frame*8+M.wad (M.vw h.Words x)%8).toNat (M.reg x.C (M.inst (M.vw h.Words x)).A):=(by rw[er]);show((⟨y.C,M.mem (M.ran h g x).Words y.Pages,y.In,y.Out⟩:DBare),true)=_;have hsm2:(M.mem h.Words x.Pages).set (M.wad (M.vw h.Words x)).toNat (M.reg x.C (M.inst (M.vw h.Words x)).A)=(M.step (M.vw h.Words x)).Mem:=hsm.symm;rw[e1,hm,hsm2,<-hy]};{exact aSg l hok (y:=y) (by rw[er]) hk hn λhlv=>by rw[er];exact bMi hs l hwr hk hn hlv};{rw[yp,aFi hpl (by omega)];split;{rfl};{exact hq}};{rw[hsm]at hne;have e:a=(M.wad (M.vw h.Words x)).toNat:=(by refine Classical.byContradiction λe=>hne ?_;show _=((M.mem h.Words x.Pages).set _ _).getD a default;rw[wZ (by rw[dE];omega),if_neg (by omega)]);rw[yp,aFi hpl (by omega),if_pos (by omega)];rfl}
end
section
variable {h : DHost} {g : Int} {x : DGuest}
theorem aBs(l:Live h g x){a:Int}(a0:0<=a)(a1:a<=63):gT h g a=some (M.shadeAt h.Words x a):=by unfold gT M.shadeAt;rw[Int.tdiv_eq_ediv_of_nonneg a0,aF (by omega) (by omega),show a/8=(((a/8).toNat:Nat):Int) by omega,bNg l (by omega),iT];rfl
theorem tR(l:Live h g x){a:Int}{w:Bool}(a0:0<=a)(a1:a<=63):dO h g a w=some (M.placeAt h.Words x a w):=by have:=l.ok.three;have:=l.lo;have:=l.hi;have hf:-1<=(M.shadeAt h.Words x a).Frame/\(M.shadeAt h.Words x a).Frame<20:=aDh l (p:=(a/8).toNat) (by omega);unfold dO;rw[aBs l a0 a1,oB,aA ⟨l.lo,by omega⟩,l.at_,aXm a0 a1 hf.1 hf.2];rfl
theorem aHl(l:Live h g x){a why:Int}(a0:0<=a)(a1:a<=63):jF h g a why=some (M.aExit (M.shadeAt h.Words x a) why):=by unfold jF M.aExit;rw[aBs l a0 a1,oB];cases decide (why=2)<;>cases decide (why=3)<;>rfl
theorem aCg{c:DCore}{n:Int}:0<=M.reg c n%64/\M.reg c n%64<=63:=by omega
theorem bKn(l:Live h g x){i:DIns}(hi:M.insOk i=true):rQ h g i=some (M.iExit h.Words x i):=by have:=l.ok.three;have:=l.lo;have:=l.hi;have hb:=hU l;have hi2:=hi;obtain⟨op,a,n⟩:=i;simp only[M.insOk,bA,M.inR_iff]at hi2;have had:cV x.C ⟨op,a,n⟩=some (M.reg x.C (n%4)%64):=aMu (b:=M.vw h.Words x) hb.k hi2.2.1;have rest:tB h g ⟨op,a,n⟩ ()=some (bif decide (op=3)||decide (op=4)then M.aExit (M.shadeAt h.Words x (M.reg x.C (n%4)%64)) (M.placeAt h.Words x (M.reg x.C (n%4)%64) (decide (op=4))).2 else M.e0):=(by have more:tI h g ⟨op,a,n⟩ ()=some (M.aExit (M.shadeAt h.Words x (M.reg x.C (n%4)%64)) (M.placeAt h.Words x (M.reg x.C (n%4)%64) (decide (op=4))).2):=(by unfold tI;simp only[l.at_];show Option.bind (cV x.C ⟨op,a,n⟩) _=_;rw[had,oB,tR l aCg.1 aCg.2,oB,aHl l aCg.1 aCg.2];rfl);unfold tB;by_cases h3:op=3;{simp only[dT h3,bT,cFq,oB,JO.run,Bool.true_or,cTq];exact more};{by_cases h4:op=4;{simp only[dF h3,dT h4,bT,bF,cTq,cFq,oB,JO.run,Bool.or_true];rw[dT h4]at more;exact more};{simp only[dF h3,dF h4,bF,cTq,oB,JO.run,Bool.or_false,cFq];rfl}});unfold rQ M.iExit;rw[aA ⟨l.lo,by omega⟩,aNh hi,oB,l.at_];(cases M.kern op with|false=>simp only[cFq,oB,JO.run,Bool.false_and];exact rest|true=>(cases x.C.User with|false=>rfl|true=>simp only[bT,cTq,cFq,oB,JO.run,Bool.and_false];exact rest))
theorem aRm(l:Live h g x){a:Int}{w:Bool}(a0:0<=a)(a1:a<=63)(h2:(M.placeAt h.Words x a w).2=0):0<=(M.placeAt h.Words x a w).1/\(M.placeAt h.Words x a w).1<160:=by rcases vZ l (w:=w) a0 a1 rfl with⟨_,hp⟩|⟨t0,t1,_,hp⟩;{rw[hp]at h2;cases h2};{have hr:=aZ l (p:=(M.walk (M.mem h.Words x.Pages) x.C.Root a x.C.User w/8).toNat) (by omega);rw[hp]at h2 ⊢;generalize(x.Pages.getD (M.walk (M.mem h.Words x.Pages) x.C.Root a x.C.User w/8).toNat default)=s at hr h2 ⊢;by_cases e:s.Frame=-1;{rw[dT e]at h2;cases h2};{rw[dF e,cFq]at h2 ⊢;(cases hw:w&&!s.Write with|true=>rw[hw]at h2;cases h2|false=>rw[cFq];simp only;omega)}}
theorem bFz(l:Live h g x):M.coreOk x.C=true/\(0<=x.C.Pc/\x.C.Pc<=63)/\(0<=x.C.Timer/\x.C.Timer<=4095):=⟨l.core,(hU l).pc,(hU l).timer⟩
theorem aZp(l:Live h g x):pN h g=some (M.xExit h.Words x):=by have:=l.ok.three;have:=l.lo;have:=l.hi;have hlw:=l.ok.len;obtain⟨_,hpc,htm⟩:=bFz l;unfold pN M.xExit M.busy;rw[aA ⟨l.lo,by omega⟩,l.at_];show cond x.C.Stopped _ (Option.bind (gX x.C) _)=_;(cases x.C.Stopped with|true=>rfl|false=>rw[cFq];rw[aZq htm.1 htm.2,oB,aCp,oB];(cases(M.tick x.C).Waits&&(M.tick x.C).On with|true=>rfl|false=>simp only[Bool.or_false,cFq];rw[tR l hpc.1 hpc.2,oB];by_cases h2:(M.placeAt h.Words x x.C.Pc false).2=0;{have hpl:=aRm l hpc.1 hpc.2 h2;have hw:=iU l.ok.words (i:=(M.placeAt h.Words x x.C.Pc false).1.toNat) (by omega);rw[dT h2,bT,cFq,cFq,aA ⟨hpl.1,by omega⟩,aVe hw.1 hw.2,oB,bKn l (aIk hw.1 hw.2)];rfl};{rw[dF h2,bF,cTq,cTq,aHl l hpc.1 hpc.2];rfl}))
theorem bQo{xs:List DShade}{s:DShade}{a why:Int}(a0:0<=a)(a1:a<=63)(hl:xs.length=8)(hg:xs.getD (a/8).toNat default=s):fL xs a why=some (M.aExit s why):=by unfold fL M.aExit;have e8:w64 (Int.tdiv a 8)=a/8:=(by rw[Int.tdiv_eq_ediv_of_nonneg a0,aF (by omega) (by omega)]);rw[e8,aA ⟨by omega,by omega⟩];unfold aAh;rw[e8,hg];cases decide (why=2)<;>cases decide (why=3)<;>rfl
end
theorem bDo{h:DHost}{g:Int}(hs:SmallH h):lT h g=some (M.guestExit h g):=by
 unfold lT M.guestExit;rw[xX hs,oB];cases ht:M.there h g with
 |false=>rfl
 |true=>
  have l:=bM hs ht;have hso:=aSy (g:=g) hs;unfold M.shadowOf at hso;rw[ht,cTq]at hso;generalize hx:h.Guests.getD g.toNat default=x at l hso;have:=l.ok.three;have:=l.lo;have:=l.hi;have hlw:=l.ok.len;obtain⟨_,hpc,htm⟩:=bFz l;have hb:=hU l;unfold M.xExit M.busy;rw[bT,cFq,aA ⟨l.lo,by omega⟩,cTq,aA ⟨l.lo,by omega⟩];show cond x.C.Stopped _ (Option.bind (mM x.C) _)=_;cases x.C.Stopped with
  |true=>rfl
  |false=>
   rw[cFq];rw[bNc l.small.c,oB,bAk htm.1 htm.2,oB];cases(M.tick x.C).Waits&&(M.tick x.C).On with
   |true=>rfl
   |false=>
    simp only[Bool.or_false,cFq,iN,oR,aVn];have pl:∀{a:Int} {w:Bool},0<=a->a<=63->dB (M.shadow h.Words x) a x.C.User w=some (M.placeAt h.Words x a w):=λ{a w} a0 a1=>by have hf:=aDh l (p:=(a/8).toNat) (by omega);exact aWa a0 a1 wI (zO (by omega)) hf.1 hf.2
    have ex:∀{a why:Int},0<=a->a<=63->fL (M.shadow h.Words x) a why=some (M.aExit (M.shadeAt h.Words x a) why):=λa0 a1=>bQo a0 a1 wI (zO (by omega));rw[hso,oB,pl hpc.1 hpc.2,oB];by_cases h2:(M.placeAt h.Words x x.C.Pc false).2=0;{have hpl:=aRm l hpc.1 hpc.2 h2;have hw:=iU l.ok.words (i:=(M.placeAt h.Words x x.C.Pc false).1.toNat) (by omega);have hi:=aIk hw.1 hw.2;rw[dT h2,bT,cFq,cFq,aA ⟨hpl.1,by omega⟩,aVd hw.1 hw.2,oB,aCz hi,oB];generalize M.ins (h.Words.getD (M.placeAt h.Words x x.C.Pc false).1.toNat default)=i at hi;simp only[M.insOk,bA,M.inR_iff]at hi;have t4:Int.tmod i.N 4=i.N%4:=aFn hi.2.1;have hr:=hb.reg (k:=i.N%4) (by omega) (by omega);have ha:Int.tmod (x.C.Regs.getD (i.N%4).toNat default) 64=M.reg x.C (i.N%4)%64:=iM hr.1;have rg:0<=i.N%4/\i.N%4<((x.C.Regs.length:Nat):Int):=hb.k.gA (a:=i.N%4) (by omega) (by omega);have a0:0<=M.reg x.C (i.N%4)%64:=(by omega);have a1:M.reg x.C (i.N%4)%64<=63:=(by omega);simp only[t4,ha];unfold M.iExit;rw[aA rg,pl a0 a1,oB,ex a0 a1,oB];cases M.kern i.Op<;>cases x.C.User<;>cases decide (i.Op=3)<;>cases decide (i.Op=4)<;>rfl};{rw[dF h2,bF,cTq,cTq,ex hpc.1 hpc.2];rfl}
theorem aWl{xs:List Int}{a w:Int}(h:xs.length<=1048576)(h0:0<=a)(h1:a<(xs.length:Int)):lG xs a w=some (xs.set a.toNat w):=by unfold lG;rw[lD h,oB,aA ⟨h0,h1⟩]
theorem aNl{pc:Int}(h0:0<=pc)(h1:pc<=63):mA pc=some ((pc+1)%64):=by unfold mA;rw[aF (by omega) (by omega),iM (by omega)]
theorem aOl{b:DBare}(h0:0<=b.C.Pc)(h1:b.C.Pc<=63):fK b=some (M.with_ b (M.go b.C)):=by unfold fK;rw[aNl h0 h1];rfl
section
variable {b : DBare} {op a n : Int}
theorem aOp(hb:KOk b)(rs ro v ti on m i ou):fK ⟨⟨rs,b.C.Pc,ro,v,b.C.Saved,b.C.SavedUser,b.C.Cause,b.C.Bad,ti,b.C.Waits,b.C.User,on,b.C.Stopped⟩,m,i,ou⟩=some ⟨⟨rs,(b.C.Pc+1)%64,ro,v,b.C.Saved,b.C.SavedUser,b.C.Cause,b.C.Bad,ti,b.C.Waits,b.C.User,on,b.C.Stopped⟩,m,i,ou⟩:=aOl (b:=⟨⟨rs,b.C.Pc,ro,v,b.C.Saved,b.C.SavedUser,b.C.Cause,b.C.Bad,ti,b.C.Waits,b.C.User,on,b.C.Stopped⟩,m,i,ou⟩) hb.pc.1 hb.pc.2
theorem bMl{k:Int}(h0:0<=k)(h1:k<4):sH b k=some (M.cin b k):=by unfold sH M.cin;by_cases e1:k=1;{rw[dT e1];rfl};by_cases e2:k=2;{rw[dF e1,dT e2];rfl};by_cases e3:k=3;{rw[dF e1,dF e2,dT e3];rfl};rw[dF e1,dF e2,dF e3];simp only[cFq];(cases hi:b.In with|nil=>rfl|cons x xs=>rw[dF (by simp only[List.length_cons];omega),cFq,aA ⟨by omega,by simp only[List.length_cons];omega⟩];rfl)
theorem aTt{xs:List Int}:List.take (Int.toNat ((List.length xs:Nat):Int)-Int.toNat (1:Int)) (List.drop (Int.toNat (1:Int)) xs)=xs.drop 1:=by rw[show Int.toNat (1:Int)=1 from rfl];exact List.take_of_length_le (by simp)
theorem bOv{xs:List Int}:List.take (Int.toNat ((List.length xs:Nat):Int)-Int.toNat (1:Int)) (List.drop 1 xs)=xs.drop 1:=aTt
theorem bRz(hb:KOk b)(a0:0<=a)(a1:a<=3)(n0:0<=n):uD b ⟨op,a,n⟩=some ⟨M.put b.C a (M.cin b (n%4)),b.Mem,M.rest b.In (n%4),b.Out⟩:=by unfold uD;simp only[aFn n0];rw[bMl (by omega) (by omega),oB,aWl (by have:=hb.regs;omega) a0 (hb.gA a0 a1).2,oB,aTt];simp only[M.rest];by_cases h:n%4=0;{rw[dT h];(cases hi:b.In with|nil=>rfl|cons x xs=>rw[dT (by simp only[List.length_cons];omega),cTq,cTq,aA ⟨by omega,by simp only[List.length_cons];omega,by omega⟩];rfl)};{rw[dF h];rfl}
theorem bKt{xs:List Int}{w:Int}(h:xs.length<=30):sW xs w=some (bif decide (xs.length<30)then xs++[w]else xs):=by unfold sW;by_cases e:xs.length<30;{rw[dF (show¬(30:Int)<=((xs.length:Nat):Int) by omega),dT e,cFq,lD (by omega),oB,aA ⟨by simp only[List.length_cons,List.length_nil];omega,by simp only[List.length_cons,List.length_nil];omega⟩];rfl};{rw[dT (show(30:Int)<=((xs.length:Nat):Int) by omega),dF e];rfl}
theorem bJk{w:Int}(h:0<=w):qM w=some (M.root w):=by unfold qM;rw[iM h,wT];simp only[oB,M.root,M.inR];by_cases e:w%16<8;{rw[dT e,dT (show 0<=w%16 by omega),dT (show w%16<=7 by omega)];rfl};{rw[dF e,dF (show¬w%16<=7 by omega),Bool.and_false];rfl}
theorem bDf(hb:KOk b)(o0:0<=op)(o1:op<=15)(a0:0<=a)(a1:a<=3)(n0:0<=n)(hk:M.kern op=true):pI b ⟨op,a,n⟩=some (M.kdo b ⟨op,a,n⟩):=by
 have g1:=hb.reg a0 (by omega);unfold pI;rw[aA (hb.gA a0 a1)];simp only[show b.C.Regs.getD a.toNat default=M.reg b.C a from rfl];rcases aAz o0 o1 with e|e|e|e|e|e|e|e|e|e|e|e|e|e|e|e<;>subst e<;>first|(exact absurd hk (by decide))|simp only[Int.reduceEq,decide_true,decide_false,cTq,cFq,oB,JO.run,iC,M.kdo]
 {rfl};{rw[bJk g1.1];simp only[oB,JO.run,iC];rw[aOp hb];rfl};{simp only[iM g1.1];rw[aOp hb];rfl};{rw[aOp hb];rfl};{rfl};{simp only[iM n0];rw[aOp hb];rfl};{rw[bKt hb.out];simp only[oB,JO.run,iC];rw[aOp hb];rfl};{rw[bRz hb a0 a1 n0];simp only[oB,JO.run,iC,M.put];rw[aOp hb];rfl}
theorem bPm(hb:KOk b)(o0:0<=op)(o1:op<=15)(a0:0<=a)(a1:a<=3)(n0:0<=n)(hk:M.kern op=true):mS b.C b.In b.Out ⟨op,a,n⟩=some ((M.kdo b ⟨op,a,n⟩).C,(M.kdo b ⟨op,a,n⟩).In,(M.kdo b ⟨op,a,n⟩).Out):=by
 have g1:=hb.reg a0 (by omega);have hp:=hb.pc;have ho:=hb.out;unfold mS yA;rw[aF (z:=b.C.Pc+1) (by omega) (by omega),iM (a:=b.C.Pc+1) (by omega)];simp only[aFn n0,show b.C.Regs.getD a.toNat default=M.reg b.C a from rfl,aTt,bOv,iM g1.1,iM n0];simp only[aA (hb.gA a0 a1)];rcases aAz o0 o1 with e|e|e|e|e|e|e|e|e|e|e|e|e|e|e|e<;>subst e<;>first|(exact absurd hk (by decide))|simp only[Int.reduceEq,decide_true,decide_false,cTq,cFq,oB,JO.run,yE,M.kdo]
 {rfl};{simp only[M.root];cases decide (M.reg b.C a%16<8)<;>rfl};{rfl};{rfl};{rfl};{rfl};{by_cases e:b.Out.length<30;{rw[dT (show((b.Out.length:Nat):Int)<30 by omega),dT e,cTq,aA ⟨by simp only[List.length_cons,List.length_nil];omega,by simp only[List.length_cons,List.length_nil];omega⟩];rfl};{rw[dF (show¬((b.Out.length:Nat):Int)<30 by omega),dF e];rfl}};{rw[aA ⟨by omega,by omega⟩];simp only[M.cin,M.rest];by_cases h:n%4=0;{rw[h];simp only[decide_true,cTq,Int.reduceEq,decide_false,cFq];(cases hi:b.In with|nil=>rfl|cons x xs=>rw[dT (by simp only[List.length_cons];omega),cTq,aA ⟨by omega,by simp only[List.length_cons];omega⟩,aA ⟨by omega,by simp only[List.length_cons];omega,by omega⟩];rfl)};{rw[dF h];simp only[cFq,oB,JO.run];rcases(show n%4=1\/n%4=2\/n%4=3 by omega)with e|e|e<;>rw[e]<;>rfl}}
end
namespace M
noncomputable def emulate (h:DHost)(g:Int)(i:DIns):DHost×Bool:=bif there h g&&insKernel i then(withM h g (h.Guests.getD g.toNat default) (kdo (vw h.Words (h.Guests.getD g.toNat default)) i),true)else(zeroH,false)
end M
theorem bXu{b b':DBare}(h1:b'.C=b.C)(h2:b'.In=b.In)(h3:b'.Out=b.Out)(i:DIns):(M.kdo b' i).C=(M.kdo b i).C/\(M.kdo b' i).In=(M.kdo b i).In/\(M.kdo b' i).Out=(M.kdo b i).Out:=by obtain⟨c,m,n,o⟩:=b';simp only at h1 h2 h3;subst h1 h2 h3;unfold M.kdo;cases decide (i.Op=0)<;>cases decide (i.Op=8)<;>cases decide (i.Op=9)<;>cases decide (i.Op=10)<;>cases decide (i.Op=11)<;>cases decide (i.Op=12)<;>cases decide (i.Op=13)<;>exact⟨rfl,rfl,rfl⟩
theorem bOo{h:DHost}{g:Int}{x:DGuest}{b b':DBare}(h1:b'.C=b.C)(h2:b'.In=b.In)(h3:b'.Out=b.Out):M.withM h g x b'=M.withM h g x b:=by unfold M.withM;rw[h1,h2,h3]
theorem KOk.small{b:DBare}(h:KOk b)(hm:b.Mem.length<=1048576):SmallB b:=⟨⟨by have:=h.regs;omega⟩,hm,by have:=h.inn;omega,by have:=h.out;omega⟩
section
variable {h : DHost} {g : Int} {x : DGuest}
theorem bDb(l:Live h g x):pB h g=some (M.mach x):=by have:=l.ok.three;have:=l.lo;have:=l.hi;unfold pB;rw[aA ⟨l.lo,by omega⟩,l.at_];rfl
theorem aHj(hs:SmallH h)(l:Live h g x){b:DBare}(hb:SmallB b):cK h g b=some (M.withM h g x b):=by have:=l.ok.three;have:=l.lo;have:=l.hi;unfold cK;rw[gY hs l.ok,oB,aWq hb,oB,aA ⟨l.lo,by omega⟩,aA ⟨l.lo,by omega⟩,aA ⟨l.lo,by omega⟩,l.at_];have hlt:g.toNat<h.Guests.length:=(by omega);simp only[bD hlt,List.set_set];rfl
theorem bAl{i:DIns}(hi:M.insKernel i=true):M.kern i.Op=true/\0<=i.Op/\i.Op<=15/\0<=i.A/\i.A<=3/\0<=i.N/\i.N<=63:=by unfold M.insKernel M.insOk at hi;simp only[bA,M.inR_iff]at hi;exact⟨hi.2,hi.1.1.1.1,hi.1.1.1.2,hi.1.1.2.1,hi.1.1.2.2,hi.1.2.1,hi.1.2.2⟩
end
theorem aWt{h:DHost}{g:Int}{i:DIns}(hs:SmallH h):fV h g i=some (M.emulate h g i):=by unfold fV M.emulate;rw[xX hs,oB];(cases ht:M.there h g with|false=>rfl|true=>have l:=bM hs ht;generalize hx:h.Guests.getD g.toNat default=x at l;have:=l.ok.three;have:=l.lo;have:=l.hi;rw[bT,cFq,bCp,oB,Bool.true_and];(cases hk:M.insKernel i with|false=>rfl|true=>obtain⟨k1,o0,o1,a0,a1,n0,n1⟩:=bAl hk;rw[bT,cFq,cTq,aDo hs l.ok.all,oB,aA ⟨l.lo,by omega⟩,hx];have ks:=bPm (b:=M.vw h.Words x) (op:=i.Op) (a:=i.A) (n:=i.N) (hU l).k o0 o1 a0 a1 n0 k1;show Option.bind (mS (M.vw h.Words x).C (M.vw h.Words x).In (M.vw h.Words x).Out ⟨i.Op,i.A,i.N⟩) _=_;rw[ks,oB,aA ⟨l.lo,by omega⟩];exact((aA rfl).trans ((aA rfl).trans ((aA rfl).trans (aA rfl))))))
section
variable {b : DBare} {op a n : Int}
theorem aZd(hb:KOk b)(a0:0<=a)(a1:a<=3)(ho:op=5\/op=6):uB b ⟨op,a,n⟩=some (M.with_ b (M.plain b.C ⟨op,a,n⟩)):=by unfold uB;rcases ho with rfl|rfl;{rfl};{simp only[decide_true,cTq];rw[aA (hb.gA a0 a1),show b.C.Regs.getD a.toNat default=M.reg b.C a from rfl];by_cases h:M.reg b.C a=0;{rw[dT h,aOl hb.pc.1 hb.pc.2];simp only[M.plain,dT h];rfl};{simp only[M.plain,dF h];rfl}}
theorem aIn(hb:KOk b)(a0:0<=a)(a1:a<=3)(n0:0<=n):sT b.C.Regs ⟨op,a,n⟩=some (bif decide (op=2)then(M.reg b.C a+M.reg b.C (n%4))%4096 else bif decide (op=15)then(M.reg b.C a-M.reg b.C (n%4)+4096)%4096 else n):=by unfold sT;have g1:=hb.reg a0 (by omega);have g2:=hb.reg (k:=n%4) (by omega) (by omega);simp only[aFn n0];rw[aA (hb.gA (by omega) (by omega)),aA (hb.gA a0 a1),aA (hb.gA a0 a1),show b.C.Regs.getD a.toNat default=M.reg b.C a from rfl,show b.C.Regs.getD (n%4).toNat default=M.reg b.C (n%4)from rfl,aF (z:=M.reg b.C a+M.reg b.C (n%4)) (by omega) (by omega),aF (z:=M.reg b.C a-M.reg b.C (n%4)) (by omega) (by omega),aF (z:=M.reg b.C a-M.reg b.C (n%4)+4096) (by omega) (by omega),iM (by omega),iM (by omega)];cases decide (op=2)<;>cases decide (op=15)<;>rfl
theorem sG(hb:KOk b)(a0:0<=a)(a1:a<=3)(w:Int):fE b a w=some (M.with_ b (M.go (M.put b.C a w))):=by unfold fE;rw[aWl (by have:=hb.regs;omega) a0 (hb.gA a0 a1).2];simp only[oB];rw[aOp hb];rfl
theorem bNb(hb:KOk b)(o0:0<=op)(o1:op<=15)(a0:0<=a)(a1:a<=3)(n0:0<=n)(hk:M.kern op=false)(h3:op≠3)(h4:op≠4):sU b ⟨op,a,n⟩=some (M.with_ b (M.plain b.C ⟨op,a,n⟩)):=by
 unfold sU;rcases aAz o0 o1 with e|e|e|e|e|e|e|e|e|e|e|e|e|e|e|e<;>subst e<;>first|(exact absurd hk (by decide))|(exact absurd rfl h3)|(exact absurd rfl h4)|simp only[Int.reduceEq,decide_true,decide_false,cTq,cFq,oB,JO.run,yZ]
 {rw[aIn hb a0 a1 n0,oB,sG hb a0 a1];rfl};{rw[aIn hb a0 a1 n0,oB,sG hb a0 a1];rfl};{rw[aZd hb a0 a1 (.inl rfl)];rfl};{rw[aZd hb a0 a1 (.inr rfl)];rfl};{rw[aNl hb.pc.1 hb.pc.2];rfl};{rw[aIn hb a0 a1 n0,oB,sG hb a0 a1];rfl}
theorem bCx(hb:KOk b){i:DIns}(hi:M.insOk i=true)(h3:i.Op≠3)(h4:i.Op≠4):lX b i=some (M.did b i):=by unfold lX;rw[aNh hi,oB];unfold M.did;rw[dF h3,dF h4];obtain⟨op,a,n⟩:=i;simp only[M.insOk,bA,M.inR_iff]at hi;obtain⟨⟨⟨o0,o1⟩,a0,a1⟩,n0,n1⟩:=hi;(cases hk:M.kern op with|false=>simp only[bF,cTq];rw[bNb hb o0 o1 a0 a1 n0 hk h3 h4];rfl|true=>simp only[bT,cFq,cTq];(cases b.C.User with|true=>rfl|false=>simp only[cFq];rw[bDf hb o0 o1 a0 a1 n0 hk];rfl))
end
section
variable {b : DBare} {op a n : Int}
theorem aTb(c:DCore)(src cause bad:Int):kC c src cause bad=some (M.trap c src cause bad):=rfl
theorem bTm(hb:KOk b)(o0:0<=op)(o1:op<=15)(a0:0<=a)(a1:a<=3)(n0:0<=n)(hk:M.kern op=false)(h3:¬op=3)(h4:¬op=4):lM b.C ⟨op,a,n⟩=some (M.plain b.C ⟨op,a,n⟩):=by
 have g1:=hb.reg a0 (by omega);have g2:=hb.reg (k:=n%4) (by omega) (by omega);have hp:=hb.pc;unfold lM;rw[aF (z:=b.C.Pc+1) (by omega) (by omega),iM (a:=b.C.Pc+1) (by omega)];simp only[aFn n0,show b.C.Regs.getD a.toNat default=M.reg b.C a from rfl,show b.C.Regs.getD (n%4).toNat default=M.reg b.C (n%4)from rfl];simp only[aA (hb.gA a0 a1),aA (hb.gA (a:=n%4) (by omega) (by omega))];rw[aF (z:=M.reg b.C a+M.reg b.C (n%4)) (by omega) (by omega),aF (z:=M.reg b.C a+4096) (by omega) (by omega),aF (z:=M.reg b.C a+4096-M.reg b.C (n%4)) (by omega) (by omega),iM (a:=M.reg b.C a+M.reg b.C (n%4)) (by omega),iM (a:=M.reg b.C a+4096-M.reg b.C (n%4)) (by omega),show M.reg b.C a+4096-M.reg b.C (n%4)=M.reg b.C a-M.reg b.C (n%4)+4096 by omega];rcases aAz o0 o1 with e|e|e|e|e|e|e|e|e|e|e|e|e|e|e|e<;>subst e<;>first|(exact absurd hk (by decide))|(exact absurd rfl h3)|(exact absurd rfl h4)|simp only[Int.reduceEq,decide_true,decide_false,cTq,cFq,oB,JO.run,zA,M.plain,aTb]
 {rfl};{rfl};{rfl};{cases decide (M.reg b.C a=0)<;>rfl};{rfl}
end
section
variable {h : DHost} {g : Int} {x : DGuest}
theorem aBm(e:DExit):eX e=some (M.lacks e):=by unfold eX M.lacks;cases decide (e.Why=2)<;>rfl
theorem aRu(hs:SmallH h)(e:DExit):jU h g e=some (M.answered h g e):=by unfold jU M.answered;rw[aRp hs,aSf hs];cases decide (e.Why=2)<;>rfl
theorem aMn(hs:SmallH h)(l:Live h g x)(hk:M.lacks (M.guestExit h g)=true)(ha:(M.answered h g (M.guestExit h g)).2=true):∃y,SmallH (M.answered h g (M.guestExit h g)).1/\Live (M.answered h g (M.guestExit h g)).1 g y:=by rw[rZ l]at hk ha ⊢;obtain⟨f,p0,p1,f0,f1,e,hok,_,_⟩:=aDk hs l hk ha;rw[e];exact⟨_,tV hs l f0 f1,zN hs l p0 p1 f0 f1 hok⟩
def stI(h:DHost)(e:DExit)(k:Int):(List Int)×(List DGuest)×Int×Int×Int×Int×Int×Int:=(h.Words,h.Guests,e.Why,e.Page,e.What.Op,e.What.A,e.What.N,k)
theorem aIu:∀{n:Nat} {k:Int} {h:DHost} {x:DGuest},k+n=8->0<=k->SmallH h->Live h g x->iter (cX g) (stI h (M.guestExit h g) k)=some (.ret (match M.ready g n h with
 |some h'=> .go (h'.Words,h'.Guests)
 |none=> .out (⟨[],[]⟩,false)))
 |0,k,h,x,hk,k0,hs,l=>by rw[dN];have:cX g (stI h (M.guestExit h g) k)=some (.ret (.go (h.Words,h.Guests))):=(by unfold cX stI;simp only;rw[dF (by omega)];rfl);rw[this];rfl
 |n+1,k,h,x,hk,k0,hs,l=>by rw[dN];unfold M.ready;(cases hl:M.lacks (M.guestExit h g)with|false=>have:cX g (stI h (M.guestExit h g) k)=some (.ret (.go (h.Words,h.Guests))):=(by unfold cX stI;simp only;rw[dT (by omega),cTq];show Option.bind (eX (M.guestExit h g)) _=_;rw[aBm,hl];rfl);rw[this];rfl|true=>rw[cTq];(cases ha:(M.answered h g (M.guestExit h g)).2 with|false=>have:cX g (stI h (M.guestExit h g) k)=some (.ret (.out (⟨[],[]⟩,false))):=(by unfold cX stI;simp only;rw[dT (by omega),cTq];show Option.bind (eX (M.guestExit h g)) _=_;rw[aBm,hl,oB,cTq];show Option.bind (jU h g (M.guestExit h g)) _=_;rw[aRu hs,oB,ha];rfl);rw[this];rfl|true=>obtain⟨y,hs2,l2⟩:=aMn hs l hl ha;have:cX g (stI h (M.guestExit h g) k)=some (.next (stI (M.answered h g (M.guestExit h g)).1 (M.guestExit (M.answered h g (M.guestExit h g)).1 g) (k+1))):=(by unfold cX stI;simp only;rw[dT (by omega),cTq];show Option.bind (eX (M.guestExit h g)) _=_;rw[aBm,hl,oB,cTq];show Option.bind (jU h g (M.guestExit h g)) _=_;rw[aRu hs,oB,ha,bT,cFq,aZp l2,<-rZ l2,oB,aF (by omega) (by omega)]);rw[this,cTq];exact aIu (by omega) (by omega) hs2 l2))
theorem bLn(hs:SmallH h)(l:Live h g x):sZ h g=some (match M.ready g 8 h with
 |some h'=>(h',true)
 |none=>(⟨[],[]⟩,false)):=by
 unfold sZ;rw[aZp l,<-rZ l,oB];have:=aIu (g:=g) (n:=8) (k:=0) (by omega) (by omega) hs l;unfold stI at this;rw[this];simp only[oB,LO.val];(cases M.ready g 8 h with|none=>rfl|some h'=>rfl)
theorem aIc:∀{n:Nat} {k:Int} {h:DHost} {x:DGuest},k+n=4->0<=k->SmallH h->Live h g x->∃j,iter (eA g) (h.Words,h.Guests,k)=some (.ret j)/\(match M.ready g n h with
 |some h'=>Option.bind (some j) (λj=>JO.run j nT)=some (h',true)
 |none=>∃h',Option.bind (some j) (λj=>JO.run j nT)=some (h',false))
 |0,k,h,x,hk,k0,hs,l=>by rw[dN];have:eA g (h.Words,h.Guests,k)=some (.ret (.go (h.Words,h.Guests))):=(by unfold eA;simp only;rw[dF (by omega)];rfl);rw[this];exact⟨_,rfl,rfl⟩
 |n+1,k,h,x,hk,k0,hs,l=>by
  rw[dN];have hge:lT ⟨h.Words,h.Guests⟩ g=some (M.guestExit h g):=bDo hs;have fil:gF ⟨h.Words,h.Guests⟩ g (M.guestExit h g).Page=some (M.hostFill h g (M.guestExit h g).Page):=aSr hs;have cop:gH ⟨h.Words,h.Guests⟩ g (M.guestExit h g).Page=some (M.hostCopy h g (M.guestExit h g).Page):=aQo hs;unfold M.ready;cases hl:M.lacks (M.guestExit h g)with
  |false=>
   have h2:¬(M.guestExit h g).Why=2:=λe=>by unfold M.lacks at hl;rw[e]at hl;cases hl
   have h3:¬(M.guestExit h g).Why=3:=λe=>by unfold M.lacks at hl;rw[e]at hl;cases hl
   have:eA g (h.Words,h.Guests,k)=some (.ret (.out (h,true))):=(by unfold eA;simp only;rw[dT (by omega),cTq,hge,oB,dF h2,dF h3];rfl);rw[this];exact⟨_,rfl,rfl⟩
  |true=>
   rw[cTq]
   have ans:Option.bind (cond (decide ((M.guestExit h g).Why=(2:Int)))
    (Option.bind (gF ⟨h.Words,h.Guests⟩ g (M.guestExit h g).Page) λv5=>some (.go (v5.1.Words,v5.1.Guests,v5.2)))
    (cond (decide ((M.guestExit h g).Why=(3:Int)))
     (Option.bind (gH ⟨h.Words,h.Guests⟩ g (M.guestExit h g).Page) λv6=>some (.go (v6.1.Words,v6.1.Guests,v6.2)))
     (some (.out (.ret (.out ((⟨h.Words,h.Guests⟩:DHost),true))))))) (λj4=>JO.run j4 (kO (h.Words,h.Guests,k)))=
    kO (h.Words,h.Guests,k) ((M.answered h g (M.guestExit h g)).1.Words,(M.answered h g (M.guestExit h g)).1.Guests,(M.answered h g (M.guestExit h g)).2):=by
    rw[fil,cop];unfold M.answered;by_cases h2:(M.guestExit h g).Why=2;{rw[dT h2];rfl}
    · have h3:(M.guestExit h g).Why=3:=by
       unfold M.lacks at hl;rw[dF h2,Bool.false_or,decide_eq_true_eq]at hl;exact hl
      rw[dF h2,dT h3];rfl
   have stp:eA g (h.Words,h.Guests,k)=kO (h.Words,h.Guests,k) ((M.answered h g (M.guestExit h g)).1.Words,(M.answered h g (M.guestExit h g)).1.Guests,(M.answered h g (M.guestExit h g)).2):=(by rw[<-ans];unfold eA;simp only;rw[dT (by omega),cTq,hge,oB]);rw[stp];unfold kO;(cases ha:(M.answered h g (M.guestExit h g)).2 with|false=>exact⟨_,rfl,_,rfl⟩|true=>obtain⟨y,hs2,l2⟩:=aMn hs l hl ha;simp only[bT,cFq,cTq];rw[aF (by omega) (by omega)];exact aIc (by omega) (by omega) hs2 l2)
theorem bKj(hs:SmallH h)(l:Live h g x):match M.ready g 8 h with
 |some h'=>lH h g=some (h',true)
 |none=>∃h',lH h g=some (h',false):=by
 obtain⟨j,h1,h2⟩:=aIc (g:=g) (n:=4) (k:=0) (by omega) (by omega) hs l;have e:M.ready g 8 h=M.ready g 4 h:=aSe (n:=4) 4 hs l (by have:=aKt (ps:=x.Pages) (b:=M.vw h.Words x);omega);rw[e];have e2:lH h g=Option.bind (some j) (λj=>JO.run j nT):=(by unfold lH;rw[h1];rfl);rw[e2];exact h2
theorem bCi(l:Live h g x)(hc:M.cnt x.Pages (M.vw h.Words x)=0)(hb:M.busy x.C=false):
 (M.wpc (M.vw h.Words x)=-1/\M.placeAt h.Words x x.C.Pc false=(-1,1))\/
 (M.wpc (M.vw h.Words x)≠-1/\(M.placeAt h.Words x x.C.Pc false).2=0/\0<=(M.placeAt h.Words x x.C.Pc false).1/\(M.placeAt h.Words x x.C.Pc false).1<160/\M.ins (h.Words.getD (M.placeAt h.Words x x.C.Pc false).1.toNat default)=M.inst (M.vw h.Words x)):=by
 have hbo:=hU l;rcases vZ l (a:=x.C.Pc) (w:=false) hbo.pc.1 hbo.pc.2 (t:=M.wpc (M.vw h.Words x)) rfl with⟨ht,hp⟩|⟨t0,t1,hpg,hp⟩;{exact .inl ⟨ht,hp⟩}
 · have hrd:M.reads (M.vw h.Words x)=true:=by
    unfold M.reads;rw[show M.busy (M.vw h.Words x).C=false from hb,dF (by omega)];rfl
   have c1:=aOh (Nat.eq_zero_of_add_eq_zero_right hc);rw[hrd,Bool.true_and]at c1;unfold M.lackS at c1;rw[Bool.false_and,Bool.or_false,decide_eq_false_iff_not]at c1;have hr:=aZ l (p:=(M.wpc (M.vw h.Words x)/8).toNat) (by omega);have hw:=aUn l t0 t1 c1;rw[dF c1,cFq,Bool.false_and,cFq]at hp;refine .inr ⟨by omega,by rw[hp],by rw[hp];simp only;omega,by rw[hp];simp only;omega,?_⟩;rw[hp];show M.ins (h.Words.getD ((x.Pages.getD (M.wpc (M.vw h.Words x)/8).toNat default).Frame*8+M.wpc (M.vw h.Words x)%8).toNat default)=_;rw[hw];rfl
theorem aNz(l:Live h g x)(hc:M.cnt x.Pages (M.vw h.Words x)=0)(hb:M.busy x.C=false)(hp0:M.wpc (M.vw h.Words x)≠-1)(ho:(M.inst (M.vw h.Words x)).Op=3\/(M.inst (M.vw h.Words x)).Op=4):
 (M.wad (M.vw h.Words x)=-1/\M.comes (M.vw h.Words x)=false/\M.placeAt h.Words x (M.adr (M.vw h.Words x)) (M.isSt (M.vw h.Words x))=(-1,1))\/
 (M.wad (M.vw h.Words x)≠-1/\M.comes (M.vw h.Words x)=true/\0<=M.wad (M.vw h.Words x)/\M.wad (M.vw h.Words x)<64/\(M.shadeAt h.Words x (M.adr (M.vw h.Words x))).Page=M.wad (M.vw h.Words x)/8/\
  M.placeAt h.Words x (M.adr (M.vw h.Words x)) (M.isSt (M.vw h.Words x))=((x.Pages.getD (M.wad (M.vw h.Words x)/8).toNat default).Frame*8+M.wad (M.vw h.Words x)%8,0)/\
  0<=(x.Pages.getD (M.wad (M.vw h.Words x)/8).toNat default).Frame/\(x.Pages.getD (M.wad (M.vw h.Words x)/8).toNat default).Frame<20/\
  h.Words.getD ((x.Pages.getD (M.wad (M.vw h.Words x)/8).toNat default).Frame*8+M.wad (M.vw h.Words x)%8).toNat default=(M.vw h.Words x).Mem.getD (M.wad (M.vw h.Words x)).toNat default):=by
 have hrd:M.reads (M.vw h.Words x)=true:=(by unfold M.reads;rw[show M.busy (M.vw h.Words x).C=false from hb,dF hp0];rfl);have eo:(decide ((M.inst (M.vw h.Words x)).Op=3)||M.isSt (M.vw h.Words x))=true:=(by unfold M.isSt;simpa using ho);have har:0<=M.adr (M.vw h.Words x)/\M.adr (M.vw h.Words x)<=63:=(by unfold M.adr;omega);have hco:M.comes (M.vw h.Words x)=!decide (M.wad (M.vw h.Words x)=-1):=(by unfold M.comes;rw[hrd,eo];rfl);rcases vZ l (a:=M.adr (M.vw h.Words x)) (w:=M.isSt (M.vw h.Words x)) har.1 har.2 (t:=M.wad (M.vw h.Words x)) rfl with⟨ht,hp⟩|⟨t0,t1,hpg,hp⟩;{exact .inl ⟨ht,by rw[hco,dT ht];rfl,hp⟩};{have hcm:M.comes (M.vw h.Words x)=true:=(by rw[hco,dF (by omega)];rfl);have c2:=aOh (Nat.eq_zero_of_add_eq_zero_left hc);rw[hcm,Bool.true_and]at c2;unfold M.lackS at c2;rw[Bool.or_eq_false_iff,decide_eq_false_iff_not]at c2;have hr:=aZ l (p:=(M.wad (M.vw h.Words x)/8).toNat) (by omega);rw[dF c2.1,cFq,c2.2,cFq]at hp;exact .inr ⟨by omega,hcm,t0,t1,hpg,hp,by omega,hr.2,aUn l t0 t1 c2.1⟩}
theorem aSi(l:Live h g x):M.withM h g x (M.vw h.Words x)=h:=by have:=l.ok.three;have:=l.lo;have:=l.hi;have e:h.Guests.set g.toNat x=h.Guests:=(by apply List.ext_getElem (by simp);intro i q1 q2;rw[List.getElem_set];split;{rename_i e;subst e;rw[<-l.at_,aW q2]};{rfl});show(⟨h.Words,h.Guests.set g.toNat x⟩:DHost)=h;rw[e]
theorem aIy{b:DBare}(hw:M.wrote (M.vw h.Words x)=false)(e1:b.C=(M.step (M.vw h.Words x)).C)(e2:b.In=(M.step (M.vw h.Words x)).In)(e3:b.Out=(M.step (M.vw h.Words x)).Out):M.withM h g x b=M.ran h g x:=by unfold M.ran;rw[hw,cFq,bOo e1 e2 e3]
theorem aKq(hs:SmallH h)(l:Live h g x){b:DBare}(hw:M.wrote (M.vw h.Words x)=false)(hm:b.Mem=[])(e1:b.C=(M.step (M.vw h.Words x)).C)(e2:b.In=(M.step (M.vw h.Words x)).In)(e3:b.Out=(M.step (M.vw h.Words x)).Out):cK h g b=some (M.ran h g x):=by rw[aHj hs l (((aUy (hU l)).k.to e1 e2 e3).small (by rw[hm];simp)),aIy hw e1 e2 e3]
theorem aLr{c:DCore}(hw:M.wrote (M.vw h.Words x)=false)(e1:c=(M.step (M.vw h.Words x)).C)(e2:x.In=(M.step (M.vw h.Words x)).In)(e3:x.Out=(M.step (M.vw h.Words x)).Out):(⟨h.Words,h.Guests.set g.toNat ⟨x.Live,c,x.Pages,x.In,x.Out⟩⟩:DHost)=M.ran h g x:=aIy (b:=⟨c,[],x.In,x.Out⟩) hw e1 e2 e3
theorem aBv{b:DBare}(h:M.comes b=false):M.wrote b=false:=by unfold M.wrote;rw[h];rfl
theorem zG{b:DBare}(h:M.busy b.C=true):M.wrote b=false:=aBv (aSo b h).2
theorem aNj{b:DBare}(h:M.wpc b=-1):M.wrote b=false:=aBv (by unfold M.comes M.reads;rw[dT h];simp)
theorem xO{b:DBare}(h3:(M.inst b).Op≠3)(h4:(M.inst b).Op≠4):M.wrote b=false:=aBv (by unfold M.comes M.isSt;rw[dF h3,dF h4];simp)
theorem bYt{b b':DBare}(h1:b'.C=b.C)(h2:b'.In=b.In)(h3:b'.Out=b.Out){i:DIns}(n3:i.Op≠3)(n4:i.Op≠4):(M.did b' i).C=(M.did b i).C/\(M.did b' i).In=(M.did b i).In/\(M.did b' i).Out=(M.did b i).Out/\(M.did b' i).Mem=b'.Mem:=by rw[aJy b i n3 n4,aJy b' i n3 n4,h1];(cases M.kern i.Op with|false=>exact⟨rfl,h2,h3,rfl⟩|true=>(cases b.C.User with|true=>exact⟨rfl,h2,h3,rfl⟩|false=>obtain⟨e1,e2,e3⟩:=bXu h1 h2 h3 i;exact⟨e1,e2,e3,bGt _ _⟩))
end
section
variable {h : DHost} {g : Int} {x : DGuest}
theorem aWv(c:DCore):mQ c=some (M.trap (M.quiet c) c.Pc 4 0):=rfl
theorem aIi(b:DBare)(addr:Int):fY b addr=some (M.with_ b (M.trap b.C b.C.Pc 2 addr)):=rfl
def tkm(x:DGuest):DBare:=⟨M.tick x.C,[],x.In,x.Out⟩
theorem aSb(l:Live h g x):KOk (tkm x):=(hU l).tick.k.to rfl rfl rfl
theorem bEg(l:Live h g x)(hi:M.insOk (M.inst (M.vw h.Words x))=true):cV (tkm x).C (M.inst (M.vw h.Words x))=some (M.adr (M.vw h.Words x)):=by have hk:=aSb l;unfold M.adr;generalize M.inst (M.vw h.Words x)=i at hi;obtain⟨op,a,n⟩:=i;simp only[M.insOk,bA,M.inR_iff]at hi;rw[aMu hk hi.2.1];show some (M.reg (M.tick x.C) (n%4)%64)=_;rw[aBu];rfl
theorem bMc{b:DBare}:0<=M.adr b/\M.adr b<=63:=by unfold M.adr;omega
theorem bLo(hs:SmallH h)(l:Live h g x)(hc:M.cnt x.Pages (M.vw h.Words x)=0)(hb:M.busy x.C=false)(hp:M.wpc (M.vw h.Words x)≠-1)(ho:(M.inst (M.vw h.Words x)).Op=3)(hst:M.step (M.vw h.Words x)=M.mdo (M.with_ (M.vw h.Words x) (M.tick x.C)) (M.inst (M.vw h.Words x))):
 sM h g (tkm x) (M.inst (M.vw h.Words x))=some (M.ran h g x):=by
 have hlw:=l.ok.len;have hi:=aDv (hU l);have ar:=bMc (b:=M.vw h.Words x);have hs4:M.isSt (M.vw h.Words x)=false:=(by unfold M.isSt;rw[ho];rfl);have hwr:M.wrote (M.vw h.Words x)=false:=(by unfold M.wrote;rw[hs4,Bool.and_false]);have me:=aRf (M.vw h.Words x) (.inl ho);rw[show(M.vw h.Words x).C=x.C from rfl]at me;rw[me,hs4,cFq]at hst;unfold sM;rw[bEg l hi,oB,tR l ar.1 ar.2,oB];rcases aNz l hc hb hp (.inl ho)with⟨hw,_,hpl⟩|⟨hw,_,t0,t1,_,hpl,f0,f1,hword⟩;{rw[hs4]at hpl;rw[dT hw,cTq]at hst;rw[hpl];simp only[Int.reduceEq,decide_false,bF,cTq];rw[aIi,oB,aKq hs l hwr rfl (by rw[hst];show M.trap (M.tick x.C) (M.tick x.C).Pc 2 _=M.trap (M.tick x.C) x.C.Pc 2 _;rw[iN]) (by rw[hst];rfl) (by rw[hst];rfl)];rfl};{rw[hs4]at hpl;rw[dF hw,cFq]at hst;rw[hpl];simp only[decide_true,bT,cFq];have hia:=hi;simp only[M.insOk,bA,M.inR_iff]at hia;rw[aA ⟨by omega,by omega⟩,sG (aSb l) hia.1.2.1 hia.1.2.2,oB,hword,aKq hs l hwr rfl (by rw[hst];rfl) (by rw[hst];rfl) (by rw[hst];rfl)];rfl}
theorem bIy(hs:SmallH h)(l:Live h g x)(hc:M.cnt x.Pages (M.vw h.Words x)=0)(hb:M.busy x.C=false)(hp:M.wpc (M.vw h.Words x)≠-1)(ho:(M.inst (M.vw h.Words x)).Op=4)(hst:M.step (M.vw h.Words x)=M.mdo (M.with_ (M.vw h.Words x) (M.tick x.C)) (M.inst (M.vw h.Words x))):
 qQ h g (tkm x) (M.inst (M.vw h.Words x))=some (M.ran h g x):=by
 have hlw:=l.ok.len;have h3:=l.ok.three;have g0:=l.lo;have g1:=l.hi;have hpl8:=l.pages;have hi:=aDv (hU l);have ar:=bMc (b:=M.vw h.Words x);have hs4:M.isSt (M.vw h.Words x)=true:=(by unfold M.isSt;rw[ho];rfl);have me:=aRf (M.vw h.Words x) (.inr ho);rw[show(M.vw h.Words x).C=x.C from rfl]at me;rw[me,hs4,cTq]at hst;have hk:=aSb l;unfold qQ;rw[bEg l hi,oB,tR l ar.1 ar.2,oB];rcases aNz l hc hb hp (.inr ho)with⟨hw,hcm,hpl⟩|⟨hw,hcm,t0,t1,hpg,hpl,f0,f1,hword⟩;{have hwr:=aBv hcm;rw[hs4]at hpl;rw[dT hw,cTq]at hst;rw[hpl];simp only[Int.reduceEq,decide_false,bF,cTq];rw[aIi,oB,aKq hs l hwr rfl (by rw[hst];show M.trap (M.tick x.C) (M.tick x.C).Pc 2 _=M.trap (M.tick x.C) x.C.Pc 2 _;rw[iN]) (by rw[hst];rfl) (by rw[hst];rfl)];rfl};{have hwr:M.wrote (M.vw h.Words x)=true:=(by unfold M.wrote;rw[hcm,hs4];rfl);rw[hs4]at hpl;rw[dF hw,cFq]at hst;rw[hpl];simp only[decide_true,bT,cFq];have hia:=hi;simp only[M.insOk,bA,M.inR_iff]at hia;have hgo:KOk (M.with_ (tkm x) (M.go (tkm x).C)):=(aUy (hU l)).k.to (by rw[hst];rfl) (by rw[hst];rfl) (by rw[hst];rfl);rw[aOl hk.pc.1 hk.pc.2,oB,aHj hs l (hgo.small (by simp[M.with_,tkm])),oB,aA (hk.gA hia.1.2.1 hia.1.2.2)];have gat:(M.withM h g x (M.with_ (tkm x) (M.go (tkm x).C))).Guests.getD g.toNat default=⟨x.Live,M.go (M.tick x.C),x.Pages,x.In,x.Out⟩:=(by have:=rO l (y:=⟨x.Live,M.go (M.tick x.C),x.Pages,x.In,x.Out⟩) (k:=g.toNat) (by omega);rw[if_pos (by omega)]at this;exact this);simp only[gat];rw[aA ⟨by omega,by show _<((h.Words.length:Nat):Int);omega⟩,aA ⟨g0,by show _<(((h.Guests.set _ _).length:Nat):Int);rw[lS];omega⟩,aBs l ar.1 ar.2,oB,hpg,aA ⟨by omega,by omega⟩];unfold M.ran;rw[hwr,cTq,hst];show some (⟨h.Words.set _ (M.reg (M.tick x.C) (M.inst (M.vw h.Words x)).A),(h.Guests.set g.toNat _).set g.toNat ⟨x.Live,M.go (M.tick x.C),x.Pages.set (M.wad (M.vw h.Words x)/8).toNat (M.dirty x (M.wad (M.vw h.Words x)/8).toNat),x.In,x.Out⟩⟩:DHost)=_;rw[List.set_set,aBu];rfl}
theorem cAi(hs:SmallH h)(l:Live h g x)(hc:M.cnt x.Pages (M.vw h.Words x)=0):zR h g=some (M.ran h g x):=by have hlw:=l.ok.len;have hb:=hU l;have he:=aTh (M.vw h.Words x);have hq:(M.vw h.Words x).C=x.C:=rfl;rw[hq]at he;unfold zR;rw[bDb l,oB];show cond x.C.Stopped _ (Option.bind (gX x.C) _)=_;(cases hst:x.C.Stopped with|true=>rw[hst,cTq]at he;rw[cTq,gY hs l.ok];show some h=_;rw[<-aIy (b:=M.vw h.Words x) (zG (by show M.busy x.C=true;unfold M.busy;rw[hst];rfl)) (by rw[he]) (by rw[he]) (by rw[he]),aSi l]|false=>rw[hst,cFq]at he;rw[cFq,aZq (c:=x.C) hb.timer.1 hb.timer.2,oB,aCp,oB];(cases hti:(M.tick x.C).Waits&&(M.tick x.C).On with|true=>rw[hti,cTq]at he;rw[cTq,aWv,oB];rw[aKq hs l (zG (by show M.busy x.C=true;unfold M.busy;rw[hti,Bool.or_true])) rfl (by rw[he];show M.trap _ (M.tick x.C).Pc 4 0=_;rw[iN];rfl) (by rw[he];rfl) (by rw[he];rfl)];rfl|false=>have hbz:M.busy x.C=false:=(by unfold M.busy;rw[hst,hti];rfl);rw[hti,cFq]at he;have hgw:dO h g (M.tick x.C).Pc false=some (M.placeAt h.Words x x.C.Pc false):=(by rw[iN];exact tR l hb.pc.1 hb.pc.2);rw[cFq,hgw,oB];rcases bCi l hc hbz with⟨hw,hp⟩|⟨hw,hp2,hp0,hp1,hins⟩;{rw[dT hw,cTq]at he;rw[hp];simp only[Int.reduceEq,decide_false,bF,cTq];rw[aIi,oB,aKq hs l (aNj hw) rfl (by rw[he];show M.trap (M.tick x.C) (M.tick x.C).Pc 2 (M.tick x.C).Pc=M.trap (M.tick x.C) x.C.Pc 2 x.C.Pc;rw[iN]) (by rw[he];rfl) (by rw[he];rfl)];rfl};{rw[dF hw,cFq]at he;have hwd:=iU l.ok.words (i:=(M.placeAt h.Words x x.C.Pc false).1.toNat) (by omega);rw[dT hp2,bT,cFq,aA ⟨hp0,by omega⟩,aVe hwd.1 hwd.2,oB,hins];show Option.bind (qB h g (tkm x) (M.inst (M.vw h.Words x))) _=_;have key:qB h g (tkm x) (M.inst (M.vw h.Words x))=some (M.ran h g x):=(by unfold qB;by_cases h3:(M.inst (M.vw h.Words x)).Op=3;{rw[aRa _ _ (.inl h3)]at he;rw[dT h3,cTq,bLo hs l hc hbz hw h3 he];rfl};{by_cases h4:(M.inst (M.vw h.Words x)).Op=4;{rw[aRa _ _ (.inr h4)]at he;rw[dF h3,dT h4,cFq,cTq,bIy hs l hc hbz hw h4 he];rfl};{obtain⟨e1,e2,e3,e4⟩:=bYt (b:=M.with_ (M.vw h.Words x) (M.tick x.C)) (b':=tkm x) rfl rfl rfl h3 h4;rw[dF h3,dF h4,cFq,cFq,bCx (aSb l) (aDv hb) h3 h4,oB,aKq hs l (xO h3 h4) e4 (by rw[he];exact e1) (by rw[he];exact e2) (by rw[he];exact e3)];rfl}});rw[key];rfl}))
end
theorem bIq{h:DHost}{g:Int}(hs:SmallH h):qN h g=some (M.hostStep h g):=by unfold qN M.hostStep;rw[sR hs,oB];(cases ht:M.there h g with|false=>rfl|true=>have l:=bM hs ht;rw[bT,cFq,cTq,bLn hs l,oB];rcases aFs (n:=8) hs l (by have:=aKt (ps:=(h.Guests.getD g.toNat default).Pages) (b:=M.vw h.Words (h.Guests.getD g.toNat default));omega)with hr|⟨h',x',hr,r⟩;{rw[hr];simp only[bF,cTq];rw[gY hs l.ok];rfl};{rw[hr];simp only[bT,cFq];rw[cAi r.small r.live r.none,r.live.at_];rfl})
theorem bBf(c:DCore):(⟨c.Regs,c.Pc,c.Root,c.Vector,c.Saved,c.SavedUser,c.Cause,c.Bad,c.Timer,c.Waits,c.User,c.On,c.Stopped⟩:DCore)=c:=rfl
def tkg(x:DGuest):DGuest:=⟨x.Live,M.tick x.C,x.Pages,x.In,x.Out⟩
section
variable {h : DHost} {g : Int} {x : DGuest}
theorem aYy(hs:SmallH h)(l:Live h g x):SmallH ⟨h.Words,h.Guests.set g.toNat (tkg x)⟩/\Live ⟨h.Words,h.Guests.set g.toNat (tkg x)⟩ g (tkg x):=by have g0:=l.lo;have g1:=l.hi;have hb:=(hU l).tick;have hok:HOk ⟨h.Words,h.Guests.set g.toNat (tkg x)⟩:=aVf l hb;have hs2:SmallH ⟨h.Words,h.Guests.set g.toNat (tkg x)⟩:=aNa hs l hb;have gat:(h.Guests.set g.toNat (tkg x)).getD g.toNat default=tkg x:=(by have:=rO l (y:=tkg x) (k:=g.toNat) (by omega);rw[if_pos (by omega)]at this;exact this);have:=bM hs2 (hO.2 ⟨hok,g0,g1,by show((h.Guests.set g.toNat (tkg x)).getD g.toNat default).Live=true;rw[gat];exact l.live⟩);rw[show(⟨h.Words,h.Guests.set g.toNat (tkg x)⟩:DHost).Guests.getD g.toNat default=tkg x from gat]at this;exact⟨hs2,this⟩
theorem bJy{ws:List Int}:M.shadow ws (tkg x)=M.shadow ws x:=by unfold M.shadow M.shade M.shadeFor M.entry tkg;simp only[aIz]
theorem bMm(hs:SmallH h)(l:Live h g x):jN ⟨h.Words,h.Guests.set g.toNat (tkg x)⟩ g=some (M.shadow h.Words x):=by obtain⟨hs2,l2⟩:=aYy hs l;rw[aSy hs2];unfold M.shadowOf;rw[wO l2,cTq,l2.at_,bJy]
theorem bIs(hs:SmallH h)(l:Live h g x){i:DIns}(hi:M.insKernel i=true):fV ⟨h.Words,h.Guests.set g.toNat (tkg x)⟩ g i=some (M.withM h g x (M.kdo (M.with_ (M.vw h.Words x) (M.tick x.C)) i),true):=by obtain⟨hs2,l2⟩:=aYy hs l;rw[aWt hs2];unfold M.emulate;rw[wO l2,hi,Bool.and_self,cTq,l2.at_];show some ((⟨h.Words,(h.Guests.set g.toNat (tkg x)).set g.toNat _⟩:DHost),true)=_;rw[List.set_set];rfl
theorem bFc(l:Live h g x){a:Int}{w:Bool}(a0:0<=a)(a1:a<=63):dB (M.shadow h.Words x) a x.C.User w=some (M.placeAt h.Words x a w):=by have hf:=aDh l (p:=(a/8).toNat) (by omega);exact aWa a0 a1 wI (zO (by omega)) hf.1 hf.2
theorem cAt(hs:SmallH h)(l:Live h g x)(hc:M.cnt x.Pages (M.vw h.Words x)=0)(hb:M.busy x.C=false)(hp:M.wpc (M.vw h.Words x)≠-1)(ho:(M.inst (M.vw h.Words x)).Op=3\/(M.inst (M.vw h.Words x)).Op=4)(hst:M.step (M.vw h.Words x)=M.mdo (M.with_ (M.vw h.Words x) (M.tick x.C)) (M.inst (M.vw h.Words x))):
 qK g (h,true) (M.tick x.C,false) (M.shadow h.Words x) (M.inst (M.vw h.Words x)) ()=some (M.ran h g x,true):=by
 have hlw:=l.ok.len;have h3:=l.ok.three;have g0:=l.lo;have g1:=l.hi;have hpl8:=l.pages;have hi:=aDv (hU l);simp only[M.insOk,bA,M.inR_iff]at hi;have ar:0<=M.adr (M.vw h.Words x)/\M.adr (M.vw h.Words x)<=63:=(by unfold M.adr;omega);have hk:KOk ⟨M.tick x.C,[],x.In,x.Out⟩:=(hU l).tick.k.to rfl rfl rfl;have hpc:=(hU l).pc;have me:=aRf (M.vw h.Words x) ho;rw[show(M.vw h.Words x).C=x.C from rfl]at me;rw[me]at hst;have t4:Int.tmod (M.inst (M.vw h.Words x)).N 4=(M.inst (M.vw h.Words x)).N%4:=aFn hi.2.1;have hr:=hk.reg (k:=(M.inst (M.vw h.Words x)).N%4) (by omega) (by omega);have had:Int.tmod ((M.tick x.C).Regs.getD ((M.inst (M.vw h.Words x)).N%4).toNat default) 64=M.adr (M.vw h.Words x):=(by show Int.tmod (M.reg (M.tick x.C) ((M.inst (M.vw h.Words x)).N%4)) 64=_;have hr':0<=M.reg (M.tick x.C) ((M.inst (M.vw h.Words x)).N%4):=hr.1;rw[iM hr',aBu];rfl);have hsd:decide ((M.inst (M.vw h.Words x)).Op=4)=M.isSt (M.vw h.Words x):=rfl;have gN:0<=(M.inst (M.vw h.Words x)).N%4/\(M.inst (M.vw h.Words x)).N%4<(((M.tick x.C).Regs.length:Nat):Int):=hk.gA (a:=(M.inst (M.vw h.Words x)).N%4) (by omega) (by omega);have gA:0<=(M.inst (M.vw h.Words x)).A/\(M.inst (M.vw h.Words x)).A<(((M.tick x.C).Regs.length:Nat):Int):=hk.gA hi.1.2.1 hi.1.2.2;have e8:w64 (Int.tdiv (M.adr (M.vw h.Words x)) 8)=M.adr (M.vw h.Words x)/8:=(by rw[Int.tdiv_eq_ediv_of_nonneg ar.1,aF (by omega) (by omega)]);have sh8:(M.shadow h.Words x).getD (M.adr (M.vw h.Words x)/8).toNat default=M.shadeAt h.Words x (M.adr (M.vw h.Words x)):=zO (by omega);have sl:(M.shadow h.Words x).length=8:=wI;have e1:w64 ((M.tick x.C).Pc+1)=x.C.Pc+1:=(by rw[iN];exact aF (by have:0<=x.C.Pc:=hpc.1;omega) (by have:x.C.Pc<=63:=hpc.2;omega));have e2:Int.tmod (x.C.Pc+1) 64=(x.C.Pc+1)%64:=iM (by have:0<=x.C.Pc:=hpc.1;omega);have hlt:g.toNat<h.Guests.length:=(by omega);unfold qK;simp only[bD hlt,List.set_set,bBf];simp only[t4,had,hsd,e8,l.at_,sh8,oR,e1,e2];rw[aA gN,bFc l ar.1 ar.2,oB];rcases aNz l hc hb hp ho with⟨hw,hcm,hpl⟩|⟨hw,hcm,t0,t1,hpg,hpl,f0,f1,hword⟩;{rw[dT hw,cTq]at hst;rw[hpl];simp only[show decide ((-1:Int)<0)=true from rfl,cTq];rw[aTb,oB,aA ⟨g0,by omega⟩,aLr (aBv hcm) (by rw[hst];show M.trap (M.tick x.C) (M.tick x.C).Pc 2 _=M.trap (M.tick x.C) x.C.Pc 2 _;rw[iN]) (by rw[hst];rfl) (by rw[hst];rfl),aA True.intro]};{rw[dF hw,cFq]at hst;rw[hpl];simp only;rw[dF (by omega),cFq];have gw:0<=(x.Pages.getD (M.wad (M.vw h.Words x)/8).toNat default).Frame*8+M.wad (M.vw h.Words x)%8/\(x.Pages.getD (M.wad (M.vw h.Words x)/8).toNat default).Frame*8+M.wad (M.vw h.Words x)%8<((h.Words.length:Nat):Int):=⟨by omega,by omega⟩;rcases ho with ho|ho;{have hs4:M.isSt (M.vw h.Words x)=false:=(by unfold M.isSt;rw[ho];rfl);have hwr:M.wrote (M.vw h.Words x)=false:=(by unfold M.wrote;rw[hs4,Bool.and_false]);rw[hs4,cFq]at hst;rw[dT ho,cTq,aA gw,aA gA,aA ⟨g0,by omega⟩,aA True.intro,hword];have:=aLr (h:=h) (g:=g) (x:=x) (c:=M.go (M.put (M.tick x.C) (M.inst (M.vw h.Words x)).A ((M.vw h.Words x).Mem.getD (M.wad (M.vw h.Words x)).toNat default))) hwr (by rw[hst];rfl) (by rw[hst];rfl) (by rw[hst];rfl);rw[<-this];simp only[M.go,M.at_,M.put,iN,oR]};{have hs4:M.isSt (M.vw h.Words x)=true:=(by unfold M.isSt;rw[ho];rfl);have hwr:M.wrote (M.vw h.Words x)=true:=(by unfold M.wrote;rw[hcm,hs4];rfl);rw[hs4,cTq]at hst;rw[dF (by omega),cFq,aA gA,aA gw,aA ⟨g0,by omega⟩,aA ⟨by omega,by omega⟩,hpg,aA ⟨by omega,by omega⟩,aA ⟨g0,by omega⟩,aA True.intro];unfold M.ran;rw[hwr,cTq,hst];show some ((⟨h.Words.set _ (M.reg (M.tick x.C) (M.inst (M.vw h.Words x)).A),_⟩:DHost),true)=_;rw[aBu];simp only[M.go,M.at_,M.dirty,iN,oR];rfl}}
end
theorem oV{α:Type}(x:Option α):grd True x=x:=aA True.intro
theorem bJr{h:DHost}{g:Int}(hs:SmallH h):qV h g=some (M.hostStep h g):=by unfold qV M.hostStep;rw[xX hs,oB];(cases ht:M.there h g with|false=>rfl|true=>have l0:=bM hs ht;have hr6:=bKj hs l0;rw[bT,cFq,cTq,aDo hs l0.ok.all,oB];rcases aFs (n:=8) hs l0 (by have:=aKt (ps:=(h.Guests.getD g.toNat default).Pages) (b:=M.vw h.Words (h.Guests.getD g.toNat default));omega)with hr|⟨h',x',hr,r⟩;{rw[hr]at hr6 ⊢;obtain⟨h2,e⟩:=hr6;rw[e,oB];simp only[bF,cTq];rw[oB]};{rw[hr]at hr6 ⊢;rw[hr6,oB];have l:=r.live;have hs':=r.small;have hc:=r.none;have h3:=l.ok.three;have g0:=l.lo;have g1:=l.hi;have hlw:=l.ok.len;have hb:=hU l;have gg:0<=g/\g<((h'.Guests.length:Nat):Int):=⟨g0,by omega⟩;have he:=aTh (M.vw h'.Words x');rw[show(M.vw h'.Words x').C=x'.C from rfl]at he;simp only[bT,cFq,l.at_];rw[aA gg];show cond x'.C.Stopped _ (Option.bind (jW x'.C) _)=_;(cases hst:x'.C.Stopped with|true=>rw[hst,cTq]at he;rw[cTq];show some (h',true)=some (M.ran h' g x',true);rw[<-aIy (b:=M.vw h'.Words x') (zG (by show M.busy x'.C=true;unfold M.busy;rw[hst];rfl)) (by rw[he]) (by rw[he]) (by rw[he]),aSi l]|false=>rw[hst,cFq]at he;have hlt:g.toNat<h'.Guests.length:=(by omega);rw[cFq,bAk (c:=x'.C) hb.timer.1 hb.timer.2,oB,aA gg];simp only[bD hlt,List.set_set,bBf];(cases hti:(M.tick x'.C).Waits&&(M.tick x'.C).On with|true=>rw[hti,cTq]at he;simp only[cTq];have:=aLr (h:=h') (g:=g) (x:=x') (c:=M.trap (M.quiet (M.tick x'.C)) (M.tick x'.C).Pc 4 0) (zG (by show M.busy x'.C=true;unfold M.busy;rw[hti,Bool.or_true])) (by rw[he];show M.trap _ (M.tick x'.C).Pc 4 0=_;rw[iN];rfl) (by rw[he];rfl) (by rw[he];rfl);rw[oV,<-this]|false=>have hbz:M.busy x'.C=false:=(by unfold M.busy;rw[hst,hti];rfl);rw[hti,cFq]at he;simp only[cFq];have hsh:=bMm hs' l;unfold tkg at hsh;rw[hsh,oB,iN,oR,bFc l (a:=x'.C.Pc) hb.pc.1 hb.pc.2,oB];rcases bCi l hc hbz with⟨hw,hp⟩|⟨hw,hp2,hp0,hp1,hins⟩;{rw[dT hw,cTq]at he;rw[hp];simp only[show decide ((-1:Int)<0)=true from rfl,cTq];rw[aTb,oB,aA gg];have:=aLr (h:=h') (g:=g) (x:=x') (c:=M.trap (M.tick x'.C) x'.C.Pc 2 x'.C.Pc) (aNj hw) (by rw[he];rfl) (by rw[he];rfl) (by rw[he];rfl);rw[oV,oV,<-this]};{rw[dF hw,cFq]at he;have hwd:=iU l.ok.words (i:=(M.placeAt h'.Words x' x'.C.Pc false).1.toNat) (by omega);have hi:=aDv hb;have hk1:cW (M.inst (M.vw h'.Words x'))=some (M.kern (M.inst (M.vw h'.Words x')).Op):=aCz hi;rw[dF (by omega),cFq,oV,aA ⟨hp0,by omega⟩,aVd hwd.1 hwd.2,oB,hins];simp only[hk1,oB,aA gg];have hia:=hi;simp only[M.insOk,bA,M.inR_iff]at hia;have hkk:KOk ⟨M.tick x'.C,[],x'.In,x'.Out⟩:=(hU l).tick.k.to rfl rfl rfl;(cases hkn:M.kern (M.inst (M.vw h'.Words x')).Op with|true=>obtain⟨n3,n4⟩:=aZn hkn;have hik:M.insKernel (M.inst (M.vw h'.Words x'))=true:=(by unfold M.insKernel;rw[hi,hkn];rfl);rw[aJy _ _ n3 n4,hkn,cTq]at he;have hu:(M.with_ (M.vw h'.Words x') (M.tick x'.C)).C.User=x'.C.User:=oR x'.C;rw[hu]at he;simp only[cTq];(cases hus:x'.C.User with|true=>rw[hus,cTq]at he;simp only[cTq];rw[aTb];simp only[oV,oB,JO.run];have:=aLr (h:=h') (g:=g) (x:=x') (c:=M.trap (M.tick x'.C) x'.C.Pc 3 0) (xO n3 n4) (by rw[he];show _=M.trap (M.tick x'.C) (M.tick x'.C).Pc 3 0;rw[iN]) (by rw[he];rfl) (by rw[he];rfl);rw[<-this]|false=>rw[hus,cFq]at he;simp only[cFq];have hem:=bIs hs' l hik;unfold tkg at hem;rw[hem];simp only[oV,oB,JO.run];rw[aIy (xO n3 n4) (by rw[he]) (by rw[he]) (by rw[he])])|false=>simp only[cFq];by_cases ho:(M.inst (M.vw h'.Words x')).Op=3\/(M.inst (M.vw h'.Words x')).Op=4;{rw[aRa _ _ ho]at he;have key:=cAt hs' l hc hbz hw ho he;rcases ho with ho|ho;{rw[dT ho];simp only[bT,cFq,oV,oB,JO.run];exact key};{rw[dF (p:=(M.inst (M.vw h'.Words x')).Op=3) (by omega),dT ho];simp only[bT,bF,cTq,cFq,oV,oB,JO.run];exact key}};{obtain⟨n3,n4⟩:=not_or.1 ho;rw[aJy _ _ n3 n4,hkn,cFq]at he;have hpl:=bTm (b:=⟨M.tick x'.C,[],x'.In,x'.Out⟩) (op:=(M.inst (M.vw h'.Words x')).Op) (a:=(M.inst (M.vw h'.Words x')).A) (n:=(M.inst (M.vw h'.Words x')).N) hkk hia.1.1.1 hia.1.1.2 hia.1.2.1 hia.1.2.2 hia.2.1 hkn n3 n4;have hpl2:lM (M.tick x'.C) (M.inst (M.vw h'.Words x'))=some (M.plain (M.tick x'.C) (M.inst (M.vw h'.Words x'))):=hpl;rw[dF n3,dF n4,hpl2];simp only[bF,cTq,oV,oB,JO.run];have:=aLr (h:=h') (g:=g) (x:=x') (c:=M.plain (M.tick x'.C) (M.inst (M.vw h'.Words x'))) (xO n3 n4) (by rw[he];rfl) (by rw[he];rfl) (by rw[he];rfl);rw[<-this]})}))})
theorem aEh{h:DHost}{g:Int}(hs:SmallH h):
 (M.there h g=false/\M.hostStep h g=(M.zeroH,false))\/(∃x,Live h g x/\M.hostStep h g=(h,false))\/
 (∃x h' x' y,Live h g x/\Rdy h g x h' x'/\Ran h' g x' y/\M.hostStep h g=(M.ran h' g x',true)):=by
 unfold M.hostStep;(cases ht:M.there h g with|false=>exact .inl ⟨rfl,rfl⟩|true=>have l:=bM hs ht;rw[cTq];rcases aFs (n:=8) hs l (by have:=aKt (ps:=(h.Guests.getD g.toNat default).Pages) (b:=M.vw h.Words (h.Guests.getD g.toNat default));omega)with hr|⟨h',x',hr,r⟩;{rw[hr];exact .inr (.inl ⟨_,l,rfl⟩)};{rw[hr];obtain⟨y,hy⟩:=bYo r.small r.live r.none;refine .inr (.inr ⟨_,h',x',y,l,r,hy,?_⟩);simp only[r.live.at_]})
namespace M
noncomputable def turn (s:DHost×Int)(g:Int):DHost×Int:=bif (hostStep s.1 g).2 then((hostStep s.1 g).1,s.2+1)else s
noncomputable def cAw (h:DHost)(ts:List Int):DHost×Int:=ts.foldl turn (h,0)
noncomputable def hostRun (h:DHost)(ts:List Int):DHost×Int:=bif hostOk h then(bif decide (200<ts.length)then(zeroH,0)else cAw h ts)else(zeroH,0)
end M
namespace M
def bTs(xs:List Int)(g:Int):Nat:=xs.countP λx=>decide (x=g)
end M
section
variable {b : DBare} {op a n : Int}
end
section
variable {b : DBare} {op a n : Int}
end
namespace M
def steps:Nat->DBare->DBare
 |0,b=>b
 |n+1,b=>step (steps n b)
end M
section
variable {b : DBare} {n : Int}
end
structure AlongT (h : DHost) (s : DHost × Int) (c : Nat → Nat) : Prop where
 ok:M.hostOk s.1=true
 small:SmallH s.1
 views:∀k:Nat,k<3->M.there h (k:Int)=true->M.hostView s.1 (k:Int)=(M.steps (c k) (M.hostView h (k:Int)).1,true)
 bIj:∀k:Nat,k<3->M.there h (k:Int)=false->M.hostView s.1 (k:Int)=M.hostView h (k:Int)/\c k=0
 num:s.2=((c 0+c 1+c 2:Nat):Int)
theorem aRx{h:DHost}{g:Int}:(M.hostView h g).2=M.there h g:=by unfold M.hostView;cases M.there h g<;>rfl
namespace M
def lv(h:DHost)(ts:List Int)(k:Nat):Nat:=bif (h.Guests.getD k default).Live then bTs ts (k:Int)else 0
end M
structure Runs (h : DHost) (ts : List Int) (c : Nat → Nat) : Prop where
 ok:M.hostOk (M.hostRun h ts).1=true
 num:(M.hostRun h ts).2=((c 0+c 1+c 2:Nat):Int)
 most:∀k:Nat,k<3->c k<=M.lv h ts k
 views:∀k:Nat,k<3->M.there h (k:Int)=true->M.hostView (M.hostRun h ts).1 (k:Int)=(M.steps (c k) (M.hostView h (k:Int)).1,true)
 bIj:∀k:Nat,k<3->M.there h (k:Int)=false->M.hostView (M.hostRun h ts).1 (k:Int)=M.hostView h (k:Int)
namespace M
def cleanAt(h:DHost)(g:Int):DHost:=⟨h.Words,h.Guests.set g.toNat (mapG clean (h.Guests.getD g.toNat default))⟩
def slotAt(h:DHost)(g:Int)(p:Nat):DSlot:=(h.Guests.getD g.toNat default).Pages.getD p default
def wordsAt(h:DHost)(g:Int)(p:Nat):List Int:=pageWords h.Words (slotAt h g p)
def zeroM:DMove:=⟨⟨[],[]⟩,⟨[],[]⟩,0,0,[]⟩
def sentOk(m:DMove)(p:Nat):Bool:=!(slotAt m.From m.G p).Dirty&&(m.Left.getD p default||decide (wordsAt m.From m.G p=wordsAt m.To m.N p))
noncomputable def moveOk (m:DMove):Bool:=there m.From m.G&&there m.To m.N&&decide (m.Left.length=8)&&(List.range 8).all (sentOk m)
def dirtied(ls:List Bool)(ps:List DSlot):List Bool:=(List.range 8).map λp=>ls.getD p default||(ps.getD p default).Dirty
noncomputable def moveStep (m:DMove):DMove×Bool:=bif (hostStep m.From m.G).2 then
 (⟨cleanAt (hostStep m.From m.G).1 m.G,m.To,m.G,m.N,dirtied m.Left ((hostStep m.From m.G).1.Guests.getD m.G.toNat default).Pages⟩,true)
 else(m,false)
noncomputable def framed (h:DHost)(g p:Int)(ws:List Int):DHost×Bool:=bif (hostFill h g p).2 then
 (bif (hostCopy (hostFill h g p).1 g p).2 then
  (⟨over (hostCopy (hostFill h g p).1 g p).1.Words ((slotAt (hostCopy (hostFill h g p).1 g p).1 g p.toNat).Frame.toNat*8) 8 ws,(hostCopy (hostFill h g p).1 g p).1.Guests⟩,true)
 else(zeroH,false))
 else(zeroH,false)
noncomputable def placeW (h:DHost)(g p:Int)(ws:List Int):DHost×Bool:=bif zeros ws then hostGive h g [p]else framed h g p ws
noncomputable def moveSend (m:DMove)(p:Int):DMove×Bool:=bif (placeW m.To m.N p (wordsAt m.From m.G p.toNat)).2 then
 (⟨m.From,(placeW m.To m.N p (wordsAt m.From m.G p.toNat)).1,m.G,m.N,m.Left.set p.toNat false⟩,true)
 else(m,false)
noncomputable def moveDo (m:DMove)(a:DAct):DMove×Bool:=bif moveOk m then
 (bif decide (a.Kind=1)then moveStep m else bif decide (a.Kind=2)&&inR 0 7 a.Page then moveSend m a.Page else(zeroM,false))
 else(zeroM,false)
end M
section
variable {h : DHost} {i : Nat} {y : DGuest}
theorem bUk (k:HOk h) (hi:i<3) (hy:M.guestOk y=true) (hw:∀s∈y.Pages,s.Write=true->∃t∈(h.Guests.getD i default).Pages,t.Write=true/\t.Frame=s.Frame)
 (hm:∀f,f≠-1->M.many y.Pages f<=M.many (h.Guests.getD i default).Pages f):HOk ⟨h.Words,h.Guests.set i y⟩:=by
 have h3:=k.three;refine⟨k.len,k.words,by rw[lS];exact h3,bGn k.all hy,?_⟩;show M.alone (M.slots (h.Guests.set i y))=true;rw[aBy];intro j hj s hs hwr;rw[lS]at hj;have old:∃t∈(h.Guests.getD j default).Pages,t.Write=true/\t.Frame=s.Frame:=(by by_cases e:j=i;{rw[e,aDx (by omega)]at hs;rw[e];exact hw s hs hwr};{rw[aLk (by omega) (λq=>e q.symm)]at hs;exact⟨s,hs,hwr,rfl⟩});obtain⟨t,ht,tw,tf⟩:=old;have ok:=List.all_eq_true.1 (iS (aXr k.all (by omega:j<h.Guests.length))).1 t ht;have hf:t.Frame≠-1:=λe=>by unfold M.slotOk at ok;rw[dT e,cTq,tw]at ok;cases ok
 have h1:=aBy.1 k.alone j (by omega) t ht tw;have h2:=aJd (y:=y) (f:=t.Frame) (gs:=h.Guests) (i:=i) (by omega);have h4:=hm t.Frame hf;rw[<-tf];omega
theorem bNh(hs:SmallH h)(hy:SmallG y):SmallH ⟨h.Words,h.Guests.set i y⟩:=by refine⟨hs.words,by rw[lS];exact hs.guests,λz hz=>?_⟩;rcases List.mem_or_eq_of_mem_set hz with hz|rfl;{exact hs.all z hz};{exact hy}
theorem bRv(k:HOk h)(k2:HOk ⟨h.Words,h.Guests.set i y⟩){j:Nat}(h3:j<3)(hn:j≠i):M.hostView ⟨h.Words,h.Guests.set i y⟩ (j:Int)=M.hostView h (j:Int):=by have:=k.three;exact bLu (fC.2 k) (fC.2 k2) rfl (by rw[iT];exact aLk (by omega) (λe=>hn e.symm))
theorem bOt{g:Int}(hs:SmallH ⟨h.Words,h.Guests.set g.toNat y⟩)(k2:HOk ⟨h.Words,h.Guests.set g.toNat y⟩)(h3:h.Guests.length=3)(g0:0<=g)(g1:g<=2)(hy:y.Live=true):Live ⟨h.Words,h.Guests.set g.toNat y⟩ g y:=by have e:((⟨h.Words,h.Guests.set g.toNat y⟩:DHost).Guests.getD g.toNat default)=y:=aDx (by omega);have:=bM hs (hO.2 ⟨k2,g0,g1,by rw[e];exact hy⟩);rwa[e]at this
end
theorem aSl{f:Int}:∀{ps:List DSlot},M.many (ps.map M.clean) f=M.many ps f
 |[]=>rfl
 |s::ps=>by rw[List.map_cons,jC,jC,aSl];rfl
theorem bQv{s:DSlot}(h:M.slotOk s=true):M.slotOk (M.clean s)=true:=by unfold M.slotOk M.clean at*;by_cases e:s.Frame=-1;{rw[dT e,cTq]at h ⊢;rw[bA]at h;rw[h.1];rfl};{rw[dF e,cFq]at h ⊢;exact h}
section
variable {h : DHost} {g : Int} {x : DGuest}
theorem sN(l:Live h g x):M.cleanAt h g=⟨h.Words,h.Guests.set g.toNat (M.mapG M.clean x)⟩:=by unfold M.cleanAt;rw[l.at_]
theorem aNb(l:Live h g x):HOk (M.cleanAt h g):=by have h3:=l.ok.three;have:=l.lo;have:=l.hi;rw[sN l];refine bUk l.ok (by omega) ((aRz (x:=M.mapG M.clean x) l.live).2 ⟨l.core,by show(x.Pages.map _).length=8;rw[List.length_map];exact l.pages,bZv bQv l.slots,l.inn,l.out⟩) (λs hs hw=>?_) (λf _=>?_);{obtain⟨t,ht,rfl⟩:=List.mem_map.1 (show s∈x.Pages.map M.clean from hs);rw[l.at_];exact⟨t,ht,hw,rfl⟩};{rw[l.at_];exact Nat.le_of_eq aSl}
theorem aHi(hs:SmallH h)(l:Live h g x):SmallH (M.cleanAt h g):=by rw[sN l];exact bNh hs ⟨l.small.c,by show(x.Pages.map _).length<=_;rw[List.length_map];exact l.small.pages,l.small.i,l.small.o⟩
theorem aJi(hs:SmallH h)(l:Live h g x):Live (M.cleanAt h g) g (M.mapG M.clean x):=by have e:=sN l;have k:=aNb l;have s:=aHi hs l;rw[e]at k s ⊢;exact bOt s k l.ok.three l.lo l.hi l.live
theorem aNq(l:Live h g x):M.mem (M.cleanAt h g).Words (M.mapG M.clean x).Pages=M.mem h.Words x.Pages:=mem_map (f:=M.clean) (λ_=>rfl) l.pages
theorem aXq(hs:SmallH h)(l:Live h g x){k:Nat}(h3:k<3):M.hostView (M.cleanAt h g) (k:Int)=M.hostView h (k:Int):=by by_cases e:(k:Int)=g;{rw[e,aAw (aJi hs l),aAw l,aNq l];rfl};{have:=l.lo;have k2:=aNb l;rw[sN l]at k2 ⊢;exact bRv l.ok k2 h3 (by omega)}
theorem aEk(l:Live h g x){p:Nat}(hp:p<8):M.pageWords h.Words (x.Pages.getD p default)=M.page (M.mem h.Words x.Pages) p:=by have hsl:=aZ l hp;refine gP (n:=8) (jZ l.ok.len hsl) (nJ (by rw[dE];omega)) λa ha=>?_;rw[kF hsl ha];unfold M.page;rw[pF ha,eU (by omega),aEc ha]
end
structure SmallM (m : DMove) : Prop where
 f:SmallH m.From
 t:SmallH m.To
 l:m.Left.length<=1048576
theorem bDq:SmallM M.zeroM:=⟨⟨by decide,by decide,λg hg=>nomatch hg⟩,⟨by decide,by decide,λg hg=>nomatch hg⟩,by decide⟩
structure MOk (m : DMove) (x y : DGuest) : Prop where
 sf:SmallH m.From
 st:SmallH m.To
 here:Live m.From m.G x
 there:Live m.To m.N y
 len:m.Left.length=8
 clean:∀p,p<8->(x.Pages.getD p default).Dirty=false
 same:∀p,p<8->m.Left.getD p default=false->M.page (M.mem m.From.Words x.Pages) p=M.page (M.mem m.To.Words y.Pages) p
section
variable {m : DMove} {x y : DGuest}
theorem aYf(hs:SmallM m)(h:M.moveOk m=true):MOk m (m.From.Guests.getD m.G.toNat default) (m.To.Guests.getD m.N.toNat default):=by unfold M.moveOk at h;simp only[bA,decide_eq_true_eq,List.all_eq_true,List.mem_range]at h;obtain⟨⟨⟨h1,h2⟩,h3⟩,h4⟩:=h;have l1:=bM hs.f h1;have l2:=bM hs.t h2;refine⟨hs.f,hs.t,l1,l2,h3,λp hp=>?_,λp hp hl=>?_⟩;{have:=h4 p hp;unfold M.sentOk at this;rw[bA,Bool.not_eq_true']at this;exact this.1};{have:=h4 p hp;unfold M.sentOk at this;rw[bA,hl,Bool.false_or,decide_eq_true_eq]at this;have e:=this.2;unfold M.wordsAt M.slotAt at e;rwa[aEk l1 hp,aEk l2 hp]at e}
theorem MOk.small(k:MOk m x y):SmallM m:=⟨k.sf,k.st,by rw[k.len];omega⟩
theorem MOk.ok(k:MOk m x y):M.moveOk m=true:=by unfold M.moveOk;rw[hO.2 ⟨k.here.ok,k.here.lo,k.here.hi,by rw[k.here.at_];exact k.here.live⟩,hO.2 ⟨k.there.ok,k.there.lo,k.there.hi,by rw[k.there.at_];exact k.there.live⟩,dT k.len,Bool.true_and,Bool.true_and,Bool.true_and,List.all_eq_true];intro p hp;have hp:=List.mem_range.1 hp;unfold M.sentOk M.wordsAt M.slotAt;rw[k.here.at_,k.there.at_,k.clean p hp,bF,Bool.true_and];(cases hl:m.Left.getD p default with|true=>rfl|false=>rw[Bool.false_or,decide_eq_true_eq,aEk k.here hp,aEk k.there hp];exact k.same p hp hl)
theorem MOk.at_(k:MOk m x y):x=m.From.Guests.getD m.G.toNat default/\y=m.To.Guests.getD m.N.toNat default:=⟨k.here.at_.symm,k.there.at_.symm⟩
end
section
variable {h : DHost} {k : Int}
theorem aMw(hs:SmallH h)(h0:0<=k)(h1:k<=1000000000000000):jP h k=some ((eP h k).1.Words,(eP h k).1.Guests,(eP h k).2):=by have:=hs.words;unfold jP;rw[xR (by omega) h0 (by omega),oB,aA (by rw[lB]),aWw hs.guests hs.all (by simp only;omega) (by simp only;omega),oB,aA (by rw[rE])];rfl
theorem aNn(hs:SmallH h)(h0:0<=k)(h1:k<=1000000000000000):mU ⟨(eP h k).1.Words,(eP h k).1.Guests⟩ k=some (eP h k).2:=by have:=hs.words;have:=aRw (k:=k+h.Words.length) hs.guests hs.all;unfold mU;simp only[eP];rw[aNp (by omega) h0 (by omega),oB,dF (by omega),cFq,aWs hs.guests hs.all (by omega) (by omega),oB,dF (by omega),cFq]
theorem wY(hs:SmallH h):k<=(eP h k).2/\(eP h k).2<=k+10000000000000:=by have:=hs.words;have:=aRw (k:=k+h.Words.length) hs.guests hs.all;simp only[eP];omega
end
noncomputable instance:DecidableEq DMove:=λa b=>Classical.propDecidable (a=b)
section
variable {xs ys : List Bool}
theorem bJh(h:xs.length<=1048576):sY xs=some xs:=by
 have key:=aBz (xs:=xs) (ys:=List.replicate (Int.toNat (xs.length:Int)) false) (step:=nS xs) (by simp) (λk zs hk hz=>by
  have h1:(k:Int)<(xs.length:Int):=(by omega);simp only[nS,dT h1,cTq,hz];rw[aA ⟨by omega,h1⟩,iT,aA ⟨by omega,h1⟩,aF (by omega) (by omega)]) (λzs hz=>by
  simp only[nS];rw[dF (by omega),cFq])
 unfold sY;rw[aA ⟨by omega,by omega,by omega⟩,key];rfl
theorem bHj(h:xs.length<=9223372036854775806):sS xs ys=some (decide (xs=ys)):=by
 unfold sS;by_cases hl:xs.length=ys.length
 · obtain⟨b,h1,h2⟩:=aUe (xs:=xs) (ys:=ys) (step:=nY xs ys) (d:=λx y=>x==y) (λx _ y=>beq_iff_eq) hl (λi hi _=>by
    have e1:(i:Int)<(xs.length:Int):=(by omega);simp only[nY,dT e1,cTq];rw[aA ⟨by omega,e1⟩,aA ⟨by omega,by omega⟩,iT,aF (by omega) (by omega)];cases(xs.getD i default==ys.getD i default)<;>rfl) (by
    simp only[nY];rw[dF (by omega),cFq])
   rw[h1,dT (by omega)];have e:decide (xs=ys)=b:=(by rw[Bool.eq_iff_iff,decide_eq_true_iff];exact h2.symm);rw[e];cases b<;>rfl
 {rw[dF (by omega),dF (λe=>hl (by rw[e]))];rfl}
theorem bHy{left:Int}(h:xs.length<=9223372036854775807)(h0:0<=left)(h1:left<=1048576):tA xs left=some (if(xs.length:Int)<=left then left-xs.length else-1):=by unfold tA;rw[aF (by omega) (by omega)];by_cases hl:(xs.length:Int)<=left;{rw[dF (by omega),if_pos hl];rfl};{rw[dT (by omega),if_neg hl];rfl}
def pC(_:Bool)(k:Int):Bool×Int:=(decide (Int.tmod k 3=0),k+1)
theorem aOy(x:Bool)(k:Int):k<=(pC x k).2/\(pC x k).2<=k+1:=by simp only[pC];omega
theorem bBi{k:Int}(h:xs.length<=1048576)(h0:0<=k)(h1:k<=4503599627370496):lZ xs k=some ((cC pC xs k).1,(cC pC xs k).2):=by have key:=aJj (m:=pC) (C:=1) (B:=9007199254740992) (step:=iD) (xs:=xs) (k:=k) (λx _ k=>aOy x k) h0 (by omega) (by omega) (λzs i q hz hi _ hq hb=>by have e1:(i:Int)<(zs.length:Int):=(by omega);simp only[iD,dT e1,cTq];rw[aA ⟨by omega,e1⟩,iT,iE (z:=q+1) (by omega) (by omega),iE (z:=(i:Int)+1) (by omega) (by omega)];rfl) (λzs q _=>by simp only[iD];rw[dF (by omega),cFq]);unfold lZ;rw[key];rfl
theorem bCa{k:Int}(h:xs.length<=1048576)(h0:0<=k)(h1:k<=4503599627370496):oY (cC pC xs k).1 k=some (cC pC xs k).2:=by have key:=aJq (m:=pC) (C:=1) (B:=9007199254740992) (step:=mG) (xs:=xs) (k:=k) (λx _ k=>aOy x k) h0 (by omega) (by omega) (λzs i x q hz hi _ hq hb hg=>by have e1:(i:Int)<(zs.length:Int):=(by omega);simp only[mG,dT e1,cTq];rw[aA ⟨by omega,e1⟩,iT,hg,iE (z:=q+1) (by omega) (by omega),iE (z:=(i:Int)+1) (by omega) (by omega)];simp[pC]) (λzs q _=>by simp only[mG];rw[dF (by omega),cFq]);unfold oY;rw[key];rfl
theorem aVh{k:Int}(h:xs.length<=1048576):k<=(cC pC xs k).2/\(cC pC xs k).2<=k+1048576:=by have:=aGd (m:=pC) (C:=1) (xs:=xs) (k:=k) λx _ k=>aOy x k;omega
end
structure FitM (m : DMove) : Prop where
 f:FitH m.From
 t:FitH m.To
 l:m.Left.length<=9223372036854775807
noncomputable def iV (m:DMove)(k:Int):DMove×Int:=(⟨(eP m.From k).1,(eP m.To (eP m.From k).2).1,m.G,m.N,(cC pC m.Left (eP m.To (eP m.From k).2).2).1⟩,(cC pC m.Left (eP m.To (eP m.From k).2).2).2)
section
variable {m : DMove} {k : Int}
theorem bNr(hs:SmallM m):gW m=some m:=by unfold gW;rw[aWk hs.f,oB,aWk hs.t,oB,bJh hs.l];rfl
theorem aWh{n:DMove}(hs:SmallM m):hG m n=some (decide (m=n)):=by have:=hs.l;unfold hG;rw[aUz hs.f,oB,aUz hs.t,oB,bHj (by omega),oB];obtain⟨a1,a2,a3,a4,a5⟩:=m;obtain⟨b1,b2,b3,b4,b5⟩:=n;simp only[DMove.mk.injEq];by_cases h1:a1=b1<;>by_cases h2:a2=b2<;>by_cases h3:a3=b3<;>by_cases h4:a4=b4<;>by_cases h5:a5=b5<;>simp[*]
theorem bKi{left:Int}(hf:FitM m)(h0:0<=left)(h1:left<=1048576):∃v,pV m left=some v/\(v<0\/(0<=v/\v<=left/\SmallM m)):=by unfold pV;obtain⟨v,hv,hs⟩:=aVj hf.f h0 h1;rw[hv,oB];rcases hs with h|⟨h,hl,hs⟩;{exact⟨-1,by rw[dT h];rfl,.inl (by omega)⟩};{obtain⟨u,hu,ht⟩:=aVj hf.t h (by omega);rw[dF (by omega),cFq,hu,oB];rcases ht with g|⟨g,gl,gs⟩;{exact⟨-1,by rw[dT g];rfl,.inl (by omega)⟩};{rw[dF (by omega),cFq,bHy hf.l g (by omega),oB];by_cases q:(m.Left.length:Int)<=u;{rw[if_pos q];exact⟨u-m.Left.length,by rw[dF (by omega)];rfl,.inr ⟨by omega,by omega,hs,gs,by omega⟩⟩};{rw[if_neg q];exact⟨-1,by rw[dT (by omega)];rfl,.inl (by omega)⟩}}}
theorem aMq(hs:SmallM m)(h0:0<=k)(h1:k<=100000000000000):jR m k=some ((iV m k).1.From.Words,(iV m k).1.From.Guests,(iV m k).1.To.Words,(iV m k).1.To.Guests,(iV m k).1.Left,(iV m k).2):=by have a:=wY (k:=k) hs.f;have b:=wY (k:=(eP m.From k).2) hs.t;unfold jR;rw[aMw hs.f h0 (by omega),oB,aA jD.1,aA jD.2,aMw hs.t (by simp only;omega) (by simp only;omega),oB,aA jD.1,aA jD.2,bBi hs.l (by simp only;omega) (by simp only;omega),oB,aA (by rw[rE])];rfl
theorem aYl:(iV m k).1.From.Words.length=m.From.Words.length/\(iV m k).1.From.Guests.length=m.From.Guests.length/\(iV m k).1.To.Words.length=m.To.Words.length/\(iV m k).1.To.Guests.length=m.To.Guests.length/\(iV m k).1.Left.length=m.Left.length:=⟨jD.1,jD.2,jD.1,jD.2,rE⟩
theorem aYg(hs:SmallM m):k<=(iV m k).2/\(iV m k).2<=k+100000000000000:=by have a:=wY (k:=k) hs.f;have b:=wY (k:=(eP m.From k).2) hs.t;have c:=aVh (k:=(eP m.To (eP m.From k).2).2) hs.l;simp only[iV];omega
theorem bDi(hs:SmallM m)(h0:0<=k)(h1:k<=100000000000000):jQ ⟨⟨(iV m k).1.From.Words,(iV m k).1.From.Guests⟩,⟨(iV m k).1.To.Words,(iV m k).1.To.Guests⟩,m.G,m.N,(iV m k).1.Left⟩ k=some (iV m k).2:=by have a:=wY (k:=k) hs.f;have b:=wY (k:=(eP m.From k).2) hs.t;have c:=aVh (k:=(eP m.To (eP m.From k).2).2) hs.l;unfold jQ;simp only[iV];rw[aNn hs.f h0 (by omega),oB,dF (by omega),cFq,aNn hs.t (by omega) (by omega),oB,dF (by omega),cFq,bCa hs.l (by omega) (by omega),oB,dF (by omega),cFq]
end
structure Got (h : DHost) (g : Int) (y : DGuest) (h' : DHost) (y' : DGuest) : Prop where
 small:SmallH h'
 live:Live h' g y'
 views:∀k:Nat,k<3->M.hostView h' (k:Int)=M.hostView h (k:Int)
 mem:M.mem h'.Words y'.Pages=M.mem h.Words y.Pages
section
variable {h : DHost} {g p : Int} {y : DGuest}
theorem bDr{h':DHost}{y':DGuest}(l:Live h g y)(l':Live h' g y')(e:M.hostView h' g=M.hostView h g):M.mem h'.Words y'.Pages=M.mem h.Words y.Pages:=by rw[aAw l,aAw l']at e;exact congrArg (λv=>v.1.Mem) e
theorem aWi (hs:SmallH h) (l:Live h g y) {f:Int} (p0:0<=p) (p1:p<=7) (f0:0<=f) (f1:f<20)
 (hm:((y.Pages.getD p.toNat default).Frame=f/\M.many (M.slots h.Guests) f=1)\/M.many (M.slots h.Guests) f=0):Got h g y (M.inFrame h g p f) (iK y p.toNat f):=by
 have g0:=l.lo;have g1:=l.hi;have hmf:M.many (M.slots h.Guests) f=if(y.Pages.getD p.toNat default).Frame=f then 1 else 0:=by rcases hm with⟨q,hm⟩|hm;{rw[if_pos q,hm]};{rw[if_neg (aGy l (by omega) hm),hm]}
 have hok:=aPa l p0 p1 f0 f1 hmf;have l2:=zN hs l p0 p1 f0 f1 hok;have hv:∀k:Nat,k<3->M.hostView (M.inFrame h g p f) (k:Int)=M.hostView h (k:Int):=λk hk=>aEw hs l p0 p1 f0 f1 hok (hm.imp And.left id) hk;have hg:=hv g.toNat (by omega);rw[show((g.toNat:Nat):Int)=g by omega]at hg;exact⟨tV hs l f0 f1,l2,hv,bDr l l2 hg⟩
theorem aPt(hs:SmallH h)(l:Live h g y)(h2:(M.hostFill h g p).2=true):∃y',0<=p/\p<=7/\Got h g y (M.hostFill h g p).1 y':=by obtain⟨x,lx,p0,p1,hc⟩:=aSt hs h2;have ex:x=y:=lx.at_.symm.trans l.at_;subst ex;rcases hc with⟨e,_⟩|⟨f,f0,f1,hm,e⟩;{rw[e];exact⟨x,p0,p1,hs,l,λ_ _=>rfl,rfl⟩};{rw[e];exact⟨_,p0,p1,aWi hs l p0 p1 f0 f1 (.inr hm)⟩}
theorem aPp(hs:SmallH h)(l:Live h g y)(h2:(M.hostCopy h g p).2=true):∃y',Got h g y (M.hostCopy h g p).1 y'/\y'.Pages.length=8/\(y'.Pages.getD p.toNat default).Write=true/\0<=(y'.Pages.getD p.toNat default).Frame:=by obtain⟨x,f,lx,p0,p1,f0,f1,e,hc⟩:=aRi hs h2;have ex:x=y:=lx.at_.symm.trans l.at_;subst ex;obtain⟨-,e1,e2⟩:=aRv (f:=f) l p0 p1;rw[e];exact⟨_,aWi hs l p0 p1 f0 f1 hc,e1,by rw[e2],by rw[e2];exact f0⟩
end
structure Put (h : DHost) (g : Int) (y : DGuest) (p : Nat) (ws : List Int) (h' : DHost) (y' : DGuest) : Prop where
 small:SmallH h'
 live:Live h' g y'
 page:∀q,q<8->M.page (M.mem h'.Words y'.Pages) q=if q=p then ws else M.page (M.mem h.Words y.Pages) q
 others:∀k:Nat,k<3->(k:Int)≠g->M.hostView h' (k:Int)=M.hostView h (k:Int)
section
variable {h : DHost} {g : Int} {y : DGuest} {p : Nat} {ws : List Int}
theorem bPl(hs:SmallH h)(l:Live h g y)(hp:p<8)(hw:(y.Pages.getD p default).Write=true)(hf:0<=(y.Pages.getD p default).Frame)(h8:ws.length=8)(hok:M.wordsOk ws=true):
 Put h g y p ws ⟨over h.Words ((y.Pages.getD p default).Frame.toNat*8) 8 ws,h.Guests⟩ y:=by
 have h3:=l.ok.three;have g0:=l.lo;have g1:=l.hi;have hpl:=l.pages;have hlw:=l.ok.len;have hsl:=aZ l hp;have ol:(over h.Words ((y.Pages.getD p default).Frame.toNat*8) 8 ws).length=160:=(by rw[nA (by omega),hlw]);have og:∀a,(over h.Words ((y.Pages.getD p default).Frame.toNat*8) 8 ws).getD a default=if a<(y.Pages.getD p default).Frame.toNat*8 then h.Words.getD a default else if a<(y.Pages.getD p default).Frame.toNat*8+8 then ws.getD (a-(y.Pages.getD p default).Frame.toNat*8) default else h.Words.getD a default:=λa=>uS h8 (by omega)
 have k2:HOk ⟨over h.Words ((y.Pages.getD p default).Frame.toNat*8) 8 ws,h.Guests⟩:=(by refine⟨ol,?_,h3,l.ok.all,l.ok.alone⟩;rw[oP];intro a ha;rw[ol]at ha;have w1:=oP.1 l.ok.words a (by omega);rw[og];split;{exact w1};{split;{exact oP.1 hok _ (by omega)};{exact w1}});have l2:Live ⟨over h.Words ((y.Pages.getD p default).Frame.toNat*8) 8 ws,h.Guests⟩ g y:=⟨l.small,k2,g0,g1,l.at_,l.live,l.core,hpl,l.slots,l.inn,l.out⟩
 have far:∀{k q b:Nat},k<3->q<(h.Guests.getD k default).Pages.length->((k:Int)≠g\/q≠p)->-1<=((h.Guests.getD k default).Pages.getD q default).Frame->b<8->¬((h.Guests.getD k default).Pages.getD q default).Frame<0->
  (over h.Words ((y.Pages.getD p default).Frame.toNat*8) 8 ws).getD (((h.Guests.getD k default).Pages.getD q default).Frame.toNat*8+b) default=h.Words.getD (((h.Guests.getD k default).Pages.getD q default).Frame.toNat*8+b) default:=λ{k q b} hk hq hn _ hb hz=>by
  have ne:=aFc hs l hp hw (by omega) hk hq hn;rw[og];split;{rfl};{split;{omega};{rfl}}
 refine⟨⟨by show(over _ _ _ _).length<=_;omega,hs.guests,hs.all⟩,l2,λq hq=>?_,λk hk hn=>?_⟩
 · have l8:(M.page (M.mem h.Words y.Pages) q).length=8:=nJ (by rw[dE];omega)
   refine gP (n:=8) (nJ (by rw[dE];omega)) (by split;exact h8;exact l8) λa ha=>?_;have e:M.page (M.mem (over h.Words ((y.Pages.getD p default).Frame.toNat*8) 8 ws) y.Pages) q=M.page (M.mem (over h.Words ((y.Pages.getD p default).Frame.toNat*8) 8 ws) y.Pages) q:=rfl;show(M.page (M.mem (over h.Words ((y.Pages.getD p default).Frame.toNat*8) 8 ws) y.Pages) q).getD a default=_;have lhs:(M.page (M.mem (over h.Words ((y.Pages.getD p default).Frame.toNat*8) 8 ws) y.Pages) q).getD a default=if(y.Pages.getD q default).Frame<0 then 0 else(over h.Words ((y.Pages.getD p default).Frame.toNat*8) 8 ws).getD ((y.Pages.getD q default).Frame.toNat*8+a) default:=by unfold M.page;rw[pF ha,eU (by omega),aEc ha]
   rw[lhs];by_cases eq:q=p;{subst eq;rw[if_pos rfl,if_neg (by omega),og,if_neg (by omega),if_pos (by omega)];congr 1;omega};{rw[if_neg eq];unfold M.page;rw[pF ha,eU (by omega),aEc ha];by_cases z:(y.Pages.getD q default).Frame<0;{rw[if_pos z,if_pos z]};{rw[if_neg z,if_neg z];have hat:=l.at_;have hsq:=aZ l hq;have:=far (k:=g.toNat) (q:=q) (b:=a) (by omega) (by rw[hat];omega) (.inr eq) (by rw[hat];exact hsq.1) ha (by rw[hat];exact z);rwa[hat]at this}}
 {unfold M.hostView M.there;rw[fC.2 k2,fC.2 l.ok,iT];simp only;(cases ht:(true&&(M.inR 0 2 (k:Int)&&(h.Guests.getD k default).Live))with|false=>rfl|true=>have lk:Live h (k:Int) (h.Guests.getD (k:Int).toNat default):=bM hs (by unfold M.there;rw[fC.2 l.ok,iT];exact ht);rw[iT]at lk;have:M.mem (over h.Words ((y.Pages.getD p default).Frame.toNat*8) 8 ws) (h.Guests.getD k default).Pages=M.mem h.Words (h.Guests.getD k default).Pages:=(by refine gP dE dE λa ha=>?_;rw[eU ha,eU ha];unfold M.word;have hsq:=aZ lk (p:=a/8) (by omega);have hlk:=lk.pages;by_cases z:((h.Guests.getD k default).Pages.getD (a/8) default).Frame<0;{rw[if_pos z,if_pos z]};{rw[if_neg z,if_neg z];exact far hk (by omega) (.inl hn) hsq.1 (by omega) z});rw[this])}
theorem Got.put{h1:DHost}{y1:DGuest}{h2:DHost}{y2:DGuest}(a:Got h g y h1 y1)(b:Put h1 g y1 p ws h2 y2):Put h g y p ws h2 y2:=⟨b.small,b.live,λq hq=>by rw[b.page q hq,a.mem],λk hk hn=>(b.others k hk hn).trans (a.views k hk)⟩
theorem Got.trans{h1:DHost}{y1:DGuest}{h2:DHost}{y2:DGuest}(a:Got h g y h1 y1)(b:Got h1 g y1 h2 y2):Got h g y h2 y2:=⟨b.small,b.live,λk hk=>(b.views k hk).trans (a.views k hk),b.mem.trans a.mem⟩
theorem bKp(hz:M.zeros ws=true){a:Nat}(ha:a<8):ws.getD a default=0:=by unfold M.zeros at hz;exact of_decide_eq_true (List.all_eq_true.1 hz a (List.mem_range.2 ha))
theorem bLd{q:Int}(hs:SmallH h)(l:Live h g y)(q0:0<=q)(q1:q<=7)(h8:ws.length=8)(hok:M.wordsOk ws=true)(h2:(M.placeW h g q ws).2=true):∃y',Put h g y q.toNat ws (M.placeW h g q ws).1 y':=by
 unfold M.placeW at h2 ⊢;cases hz:M.zeros ws with
 |true=>
  have hq:([q]:List Int).all (M.inR 0 7)=true:=(by simp[M.inR,q0,q1]);have th:M.there h g=true:=hO.2 ⟨l.ok,l.lo,l.hi,by rw[l.at_];exact l.live⟩;have e:M.hostGive h g [q]=(⟨h.Words,h.Guests.set g.toNat (M.giveG y [q])⟩,true):=(by unfold M.hostGive;rw[th,hq,l.at_];rfl);rw[cTq,e];refine⟨M.giveG y [q],aQp hs l,bKg hs l,λr hr=>?_,λk hk hn=>bMv l hk hn⟩;have l8:(M.page (M.mem h.Words y.Pages) r).length=8:=nJ (by rw[dE];omega);refine gP (n:=8) (nJ (by rw[dE];omega)) (by split;exact h8;exact l8) λa ha=>?_;show(M.page (M.mem h.Words (M.giveG y [q]).Pages) r).getD a default=_;have lhs:(M.page (M.mem h.Words (M.giveG y [q]).Pages) r).getD a default=if((r:Nat):Int)∈([q]:List Int)then 0 else(M.mem h.Words y.Pages).getD (r*8+a) default:=by have:=bPe l hq (b:=r*8+a) (by omega);rw[show(r*8+a)/8=r by omega]at this;rw[<-this];unfold M.page;rw[pF ha]
  rw[lhs];by_cases er:r=q.toNat
  {rw[if_pos er,if_pos (by rw[List.mem_singleton];omega),bKp hz ha]};{rw[if_neg er,if_neg (by rw[List.mem_singleton];omega)];unfold M.page;rw[pF ha]}
 |false=>rw[hz,cFq]at h2;rw[cFq];unfold M.framed at h2 ⊢;(cases f2:(M.hostFill h g q).2 with|false=>rw[f2]at h2;cases h2|true=>rw[f2,cTq]at h2;rw[cTq];obtain⟨y1,-,-,a⟩:=aPt hs l f2;(cases c2:(M.hostCopy (M.hostFill h g q).1 g q).2 with|false=>rw[c2]at h2;cases h2|true=>rw[cTq];obtain⟨y2,b,-,bw,bf⟩:=aPp a.small a.live c2;refine⟨y2,(a.trans b).put ?_⟩;have:=bPl (p:=q.toNat) b.small b.live (by omega) bw bf h8 hok;unfold M.slotAt;rw[b.live.at_];exact this))
end
structure Did (m m' : DMove) (st : Bool) : Prop where
 g:m'.G=m.G
 n:m'.N=m.N
 ok:∃x y,MOk m' x y
 view:M.hostView m'.From m.G=bif st then(M.step (M.hostView m.From m.G).1,true)else M.hostView m.From m.G
 here:∀k:Nat,k<3->(k:Int)≠m.G->M.hostView m'.From (k:Int)=M.hostView m.From (k:Int)
 there:∀k:Nat,k<3->(k:Int)≠m.N->M.hostView m'.To (k:Int)=M.hostView m.To (k:Int)
theorem aDj{ls:List Bool}{ps:List DSlot}:(M.dirtied ls ps).length=8:=by simp[M.dirtied]
theorem aNc{ls:List Bool}{ps:List DSlot}{p:Nat}(hp:p<8):(M.dirtied ls ps).getD p default=(ls.getD p default||(ps.getD p default).Dirty):=by rw[aW (by rw[aDj];exact hp)];simp[M.dirtied]
theorem aVa{h:DHost}{g:Int}(hs:SmallH h)(h2:(M.hostStep h g).2=true):∃y,Live (M.hostStep h g).1 g y:=by rcases aEh (g:=g) hs with⟨_,e⟩|⟨_,_,e⟩|⟨x0,h',x1,y1,l0,r,hy,e⟩;{rw[e]at h2;cases h2};{rw[e]at h2;cases h2};{have tv:=aRx (h:=M.ran h' g x1) (g:=g);rw[hy.view]at tv;have:=bM hy.small tv.symm;rw[hy.at_]at this;rw[e];exact⟨_,this⟩}
section
variable {m : DMove} {x y : DGuest}
theorem bQc(k:MOk m x y)(h2:(M.moveStep m).2=true):Did m (M.moveStep m).1 true:=by have g0:=k.here.lo;have g1:=k.here.hi;have hst:(M.hostStep m.From m.G).2=true:=(by unfold M.moveStep at h2;(cases e:(M.hostStep m.From m.G).2 with|true=>rfl|false=>rw[e]at h2;cases h2));rcases aEh (g:=m.G) k.sf with⟨_,e⟩|⟨_,_,e⟩|⟨x0,h',x1,y1,l0,r,hy,e⟩;{rw[e]at hst;cases hst};{rw[e]at hst;cases hst};{have ex:x0=x:=l0.at_.symm.trans k.here.at_;subst ex;have tv:=aRx (h:=M.ran h' m.G x1) (g:=m.G);rw[hy.view]at tv;have hR:Live (M.ran h' m.G x1) m.G y1:=(by have:=bM hy.small tv.symm;rwa[hy.at_]at this);have em:(M.moveStep m).1=⟨M.cleanAt (M.ran h' m.G x1) m.G,m.To,m.G,m.N,M.dirtied m.Left y1.Pages⟩:=(by unfold M.moveStep;rw[e,cTq];simp only;rw[hy.at_]);have hv:=hy.view;rw[aAw hR,r.same]at hv;have hmem:M.mem (M.ran h' m.G x1).Words y1.Pages=(M.step (M.vw m.From.Words x0)).Mem:=congrArg (λv=>v.1.Mem) hv;have hold:M.mem h'.Words x1.Pages=M.mem m.From.Words x0.Pages:=congrArg DBare.Mem r.same;have cv:=λ(j:Nat) (hj:j<3)=>aXq hy.small hR hj;rw[em];refine⟨rfl,rfl,⟨M.mapG M.clean y1,y,aHi hy.small hR,k.st,aJi hy.small hR,k.there,aDj,λp hp=>?_,λp hp hl=>?_⟩,?_,λj hj hn=>?_,λ_ _ _=>rfl⟩;{show((y1.Pages.map M.clean).getD p default).Dirty=false;rw[aYc (by have:=hR.pages;omega)];rfl};{have hl:(M.dirtied m.Left y1.Pages).getD p default=false:=hl;rw[aNc hp,Bool.or_eq_false_iff]at hl;have e1:=k.same p hp hl.1;rw[<-e1];show M.page (M.mem (M.cleanAt (M.ran h' m.G x1) m.G).Words (M.mapG M.clean y1).Pages) p=_;rw[aNq hR,hmem];refine gP (n:=8) (nJ (by rw[<-hmem,dE];omega)) (nJ (by rw[dE];omega)) λa ha=>?_;unfold M.page;rw[pF ha,pF ha];apply Classical.byContradiction;intro hn;have:=hy.told (p*8+a) (by omega) (by rw[hold,r.same];exact λq=>hn q.symm);rw[show(p*8+a)/8=p by omega,hl.2]at this;cases this};{show M.hostView (M.cleanAt (M.ran h' m.G x1) m.G) m.G=_;have:=cv m.G.toNat (by omega);rw[show((m.G.toNat:Nat):Int)=m.G by omega]at this;rw[this,hy.view,r.same,xY k.here];rfl};{show M.hostView (M.cleanAt (M.ran h' m.G x1) m.G) (j:Int)=_;rw[cv j hj,hy.others j hj hn,r.views j hj]}}
theorem bRa{h:DHost}{g:Int}{x:DGuest}(l:Live h g x){p:Nat}(hp:p<8):(M.pageWords h.Words (x.Pages.getD p default)).length=8/\M.wordsOk (M.pageWords h.Words (x.Pages.getD p default))=true:=by have hsl:=aZ l hp;have hlw:=l.ok.len;have h8:=jZ (ws:=h.Words) hlw hsl;refine⟨h8,?_⟩;rw[oP];intro a ha;rw[h8]at ha;rw[kF hsl ha];split;{rfl};{exact oP.1 l.ok.words _ (by omega)}
theorem bQu(k:MOk m x y){q:Int}(q0:0<=q)(q1:q<=7)(h2:(M.moveSend m q).2=true):Did m (M.moveSend m q).1 false/\(M.moveSend m q).1.Left=m.Left.set q.toNat false:=by
 have hp:q.toNat<8:=(by omega);have hwa:M.wordsAt m.From m.G q.toNat=M.pageWords m.From.Words (x.Pages.getD q.toNat default):=(by unfold M.wordsAt M.slotAt;rw[k.here.at_]);obtain⟨w8,wok⟩:=bRa k.here hp;have hpl:(M.placeW m.To m.N q (M.wordsAt m.From m.G q.toNat)).2=true:=(by unfold M.moveSend at h2;(cases e:(M.placeW m.To m.N q (M.wordsAt m.From m.G q.toNat)).2 with|true=>rfl|false=>rw[e]at h2;cases h2));have em:(M.moveSend m q).1=⟨m.From,(M.placeW m.To m.N q (M.wordsAt m.From m.G q.toNat)).1,m.G,m.N,m.Left.set q.toNat false⟩:=(by unfold M.moveSend;rw[hpl];rfl);rw[em];rw[hwa]at hpl ⊢;obtain⟨y',P⟩:=bLd k.st k.there q0 q1 w8 wok hpl;refine⟨⟨rfl,rfl,⟨x,y',k.sf,P.small,k.here,P.live,by show(m.Left.set _ _).length=8;rw[lS];exact k.len,k.clean,λp hp8 hl=>?_⟩,rfl,λ_ _ _=>rfl,P.others⟩,rfl⟩;have hl:(m.Left.set q.toNat false).getD p default=false:=hl;show M.page (M.mem m.From.Words x.Pages) p=M.page (M.mem (M.placeW m.To m.N q (M.pageWords m.From.Words (x.Pages.getD q.toNat default))).1.Words y'.Pages) p;rw[P.page p hp8];by_cases e:p=q.toNat
 {rw[if_pos e,e,aEk k.here hp]};{rw[if_neg e];refine k.same p hp8 ?_;rwa[List.getD_eq_getElem?_getD,List.getElem?_set,if_neg (λc=>e c.symm),<-List.getD_eq_getElem?_getD]at hl}
theorem bYv(hs:SmallM m){a:DAct}(h2:(M.moveDo m a).2=true):M.moveOk m=true/\Did m (M.moveDo m a).1 (decide (a.Kind=1)):=by unfold M.moveDo at h2 ⊢;(cases ho:M.moveOk m with|false=>rw[ho]at h2;cases h2|true=>have k:=aYf hs ho;rw[ho,cTq]at h2;rw[cTq];refine⟨rfl,?_⟩;(cases h1:decide (a.Kind=1)with|true=>rw[h1,cTq]at h2;exact bQc k h2|false=>rw[h1,cFq]at h2;rw[cFq];(cases hc:(decide (a.Kind=2)&&M.inR 0 7 a.Page)with|false=>rw[hc]at h2;cases h2|true=>rw[hc,cTq]at h2;rw[bA]at hc;obtain⟨p0,p1⟩:=M.inR_iff.1 hc.2;exact(bQu k p0 p1 h2).1)))
theorem bPa(hs:SmallM m){a:DAct}:SmallM (M.moveDo m a).1:=by
 (cases h2:(M.moveDo m a).2 with|true=>obtain⟨_,_,k⟩:=(bYv hs h2).2.ok;exact k.small|false=>have:(M.moveDo m a).1=m\/(M.moveDo m a).1=M.zeroM:=(by unfold M.moveDo M.moveStep M.moveSend at h2 ⊢;cases ho:M.moveOk m<;>rw[ho]at h2;{exact .inr rfl};{rw[cTq]at h2 ⊢;cases h1:decide (a.Kind=1)<;>rw[h1]at h2;{rw[cFq]at h2 ⊢;cases hc:(decide (a.Kind=2)&&M.inR 0 7 a.Page)<;>rw[hc]at h2;{exact .inr rfl};{rw[cTq]at h2 ⊢;cases e:(M.placeW m.To m.N a.Page (M.wordsAt m.From m.G a.Page.toNat)).2<;>rw[e]at h2;{exact .inl rfl};{cases h2}}};{rw[cTq]at h2 ⊢;cases e:(M.hostStep m.From m.G).2<;>rw[e]at h2;{exact .inl rfl};{cases h2}}});rcases this with e|e<;>rw[e];{exact hs};{exact bDq})
structure End (m : DMove) (a b : DHost) : Prop where
 sa:SmallH a
 sb:SmallH b
 oa:M.hostOk a=true
 ob:M.hostOk b=true
 view:M.hostView b m.N=M.hostView m.From m.G
 bIj:(M.hostView a m.G).2=false
 here:∀k:Nat,k<3->(k:Int)≠m.G->M.hostView a (k:Int)=M.hostView m.From (k:Int)
 there:∀k:Nat,k<3->(k:Int)≠m.N->M.hostView b (k:Int)=M.hostView m.To (k:Int)
end
theorem bCz{a b:List Int}(h:a.length=b.length)(h8:a.length<=1048576):oX a b=some (decide (a=b)):=by
 unfold oX
 have key:=aVy (n:=a.length) (step:=mE a b) (λk=>k) (λi=>decide (a.getD i default=b.getD i default)) (.go ()) (.out false) (λi hi=>by
  simp only[mE,iT];rw[dT (p:=(i:Int)<_) (by omega),cTq,aA ⟨by omega,by omega⟩,aA ⟨by omega,by omega⟩,aF (by omega) (by omega)];cases decide (a.getD i default=b.getD i default)<;>rfl) (by
  simp only[mE];rw[dF (by omega),cFq])
 rw[key]
 have e:(List.range a.length).all (λi=>decide (a.getD i default=b.getD i default))=decide (a=b):=by
  apply dbe;rw[List.all_eq_true,decide_eq_true_eq];constructor;{intro hh;exact gP rfl h.symm λi hi=>of_decide_eq_true (hh i (List.mem_range.2 hi))}
  · rintro rfl i _;exact dT rfl
 rw[e];cases decide (a=b)<;>rfl
section
variable {h : DHost} {g : Int} {x : DGuest}
theorem vS(l:Live h g x){p:Nat}:M.wordsAt h g p=M.pageWords h.Words (x.Pages.getD p default):=by unfold M.wordsAt M.slotAt;rw[l.at_]
theorem nO(l:Live h g x){p:Nat}(hp:p<8):(M.wordsAt h g p).length=8:=by rw[vS l];exact jZ l.ok.len (aZ l hp)
theorem bDn(l:Live h g x){p a:Nat}(hp:p<8)(ha:a<8):(M.wordsAt h g p).getD a default=M.word h.Words x.Pages (p*8+a):=by rw[vS l,kF (aZ l hp) ha,aEc ha]
theorem bBu(l:Live h g x){p:Nat}(hp:p<8):lK h g (p:Int)=some (M.wordsAt h g p):=by
 have hw:=nO l hp;unfold lK
 have key:=hM (n:=8) (step:=kR h g (p:Int)) (λk=>((M.wordsAt h g p).take k,(k:Int))) (λ_=>true) (JO.go (M.wordsAt h g p)) (JO.go (M.wordsAt h g p)) (λk hk _=>by
  simp only[kR];rw[dT (p:=(k:Int)<8) (by omega),cTq,aF (z:=(p:Int)*8) (by omega) (by omega),aF (z:=(p:Int)*8+(k:Int)) (by omega) (by omega),show(p:Int)*8+(k:Int)=((p*8+k:Nat):Int) by omega,bAb l (by omega),oB];have e:(M.wordsAt h g p).take (k+1)=(M.wordsAt h g p).take k++[M.word h.Words x.Pages (p*8+k)]:=(by rw[List.take_succ_eq_append_getElem (by omega),<-bDn l hp hk,aW (by omega)]);rw[aA ⟨by simp;omega,by simp;omega⟩,aF (by omega) (by omega),<-e];rfl) (λ_=>by
  simp only[kR];rw[List.take_of_length_le (by omega)];rfl)
 rw[Bool.cond_self,List.take_zero]at key;show Option.bind (Option.bind (iter (kR h g (p:Int)) ([],((0:Nat):Int))) LO.val) _=_;rw[key];rfl
end
section
variable {m : DMove}
theorem bRl{x y:DGuest}(l:Live m.From m.G x)(k:Live m.To m.N y){p:Nat}(hp:p<8):tZ m (p:Int)=some (decide (M.wordsAt m.From m.G p=M.wordsAt m.To m.N p)):=by have l3:=l.ok.three;have:=l.lo;have:=l.hi;have lp:=l.pages;have k3:=k.ok.three;have:=k.lo;have:=k.hi;have kp:=k.pages;have w1:=nO l hp;have w2:=nO k hp;unfold tZ;simp only[l.at_,k.at_,iT];rw[aA ⟨by omega,by omega⟩,aA ⟨by omega,by omega⟩,aA ⟨by omega,by omega⟩,aA ⟨by omega,by omega⟩];show Option.bind (bZ m.From.Words (x.Pages.getD p default)) _=_;rw[tW l.ok.len (aZ l hp),oB];show Option.bind (bZ m.To.Words (y.Pages.getD p default)) _=_;rw[tW k.ok.len (aZ k hp),oB,<-vS l,<-vS k,bCz (by omega) (by omega)];rfl
theorem bQf(hs:SmallM m):uI m=some (M.moveOk m):=by
 unfold uI M.moveOk;rw[sR hs.f,oB];cases h1:M.there m.From m.G with
 |false=>rfl
 |true=>
  rw[bT,cFq,sR hs.t,oB];cases h2:M.there m.To m.N with
  |false=>rfl
  |true=>
   rw[bT,cFq];by_cases h3:m.Left.length=8
   · have l:=bM hs.f h1;have k:=bM hs.t h2
     have l3:=l.ok.three;have:=l.lo;have:=l.hi;have lp:=l.pages;rw[dT h3,dT (by omega),bT,cFq,aA ⟨by omega,by omega⟩]
     have key:=hM (n:=8) (step:=oT m) (λp=>(p:Int)) (M.sentOk m) (JO.go ()) (.out false) (λp hp _=>by
      simp only[oT,iT];rw[dT (p:=(p:Int)<_) (by omega),cTq,aA ⟨by omega,by omega⟩];unfold M.sentOk M.slotAt;cases((m.From.Guests.getD m.G.toNat default).Pages.getD p default).Dirty with
      |true=>rfl
      |false=>
       rw[cFq,aA ⟨by omega,by omega⟩];cases m.Left.getD p default with
       |true=>simp only[bT,cFq,oB,JO.run,uQ];rw[aF (by omega) (by omega)];rfl
       |false=>
        rw[bF,cTq,bRl l k hp,oB];cases decide (M.wordsAt m.From m.G p=M.wordsAt m.To m.N p)with
        |false=>rfl
        |true=>simp only[bT,cFq,oB,JO.run,uQ];rw[aF (by omega) (by omega)];rfl) (λ_=>by
      simp only[oT];rw[dF (by omega)];rfl)
     rw[show(0:Int)=((0:Nat):Int)from rfl,key];cases(List.range 8).all (M.sentOk m)<;>rfl
   {rw[dF h3,dF (by omega)];rfl}
theorem bRr(hs:SmallM m):uF m=some (M.moveOk m):=by
 unfold uF M.moveOk;rw[xX hs.f,oB];cases h1:M.there m.From m.G with
 |false=>rfl
 |true=>
  rw[bT,cFq,xX hs.t,oB];cases h2:M.there m.To m.N with
  |false=>rfl
  |true=>
   rw[bT,cFq];by_cases h3:m.Left.length=8
   · have l:=bM hs.f h1;have k:=bM hs.t h2
     have l3:=l.ok.three;have:=l.lo;have:=l.hi;have lp:=l.pages;rw[dT h3,dT (by omega),bT,cFq]
     have key:=hM (n:=8) (step:=pE m) (λp=>(p:Int)) (M.sentOk m) (JO.go ()) (.out false) (λp hp _=>by
      have w1:=nO l hp;have w2:=nO k hp;simp only[pE,iT];rw[dT (p:=(p:Int)<_) (by omega),cTq,aA ⟨by omega,by omega⟩,aA ⟨by omega,by omega⟩];unfold M.sentOk M.slotAt;cases((m.From.Guests.getD m.G.toNat default).Pages.getD p default).Dirty with
      |true=>rfl
      |false=>
       rw[cFq,bBu l hp,oB,bBu k hp,oB]
       have inner:iter (iI m (p:Int) (M.wordsAt m.From m.G p) (M.wordsAt m.To m.N p)) 0=some (.ret (bif m.Left.getD p default||decide (M.wordsAt m.From m.G p=M.wordsAt m.To m.N p)then .go ()else .out (.ret (.out false)))):=by
        cases hl:m.Left.getD p default with
        |true=>rw[dN];simp only[iI,iT,hl];rw[dT (p:=(0:Int)<8) (by omega),cTq,aA ⟨by omega,by omega⟩];rfl
        |false=>
         have ik:=hM (n:=8) (step:=iI m (p:Int) (M.wordsAt m.From m.G p) (M.wordsAt m.To m.N p)) (λa=>(a:Int)) (λa=>decide ((M.wordsAt m.From m.G p).getD a default=(M.wordsAt m.To m.N p).getD a default)) (JO.go ()) (.out (.ret (.out false))) (λa ha _=>by
          simp only[iI,iT,hl];rw[dT (p:=(a:Int)<8) (by omega),cTq,aA ⟨by omega,by omega⟩,bF,cTq,aA ⟨by omega,by omega⟩,aA ⟨by omega,by omega⟩,aF (by omega) (by omega)];cases decide ((M.wordsAt m.From m.G p).getD a default=(M.wordsAt m.To m.N p).getD a default)<;>rfl) (λ_=>by
          simp only[iI];rfl)
         have e:((List.range 8).all λa=>decide ((M.wordsAt m.From m.G p).getD a default=(M.wordsAt m.To m.N p).getD a default))=decide (M.wordsAt m.From m.G p=M.wordsAt m.To m.N p):=(by apply dbe;rw[List.all_eq_true,decide_eq_true_eq];constructor;{intro hh;exact gP w1 w2 λi hi=>of_decide_eq_true (hh i (List.mem_range.2 hi))};{intro e i _;rw[e];exact dT rfl});rw[e]at ik;rw[Bool.false_or];exact ik
       rw[inner];cases(m.Left.getD p default||decide (M.wordsAt m.From m.G p=M.wordsAt m.To m.N p))with
       |false=>rfl
       |true=>simp only[cTq,oB,LO.val,JO.run,aAm];rw[aF (by omega) (by omega)];rfl) (λ_=>by
      simp only[pE];rfl)
     rw[show(0:Int)=((0:Nat):Int)from rfl,key];cases(List.range 8).all (M.sentOk m)<;>rfl
   {rw[dF h3,dF (by omega)];rfl}
theorem aHh{x y:DGuest}(k:MOk m x y):kI m=some m:=by have:=k.len;unfold kI;rw[aA ⟨by omega,by omega,by omega⟩,gY k.sf k.here.ok,oB,gY k.st k.there.ok,oB,aPb (by simp)]
theorem aHb{x y:DGuest}(k:MOk m x y):lL m=some m:=by have:=k.len;unfold lL;rw[aDo k.sf k.here.ok.all,oB,aDo k.st k.there.ok.all,oB,aA ⟨by omega,by omega⟩]
end
section
variable {a b : DHost} {g : Int}
end
section
variable {m : DMove}
end
theorem bMp{T:Type}[Inhabited T]{p:T->Bool}{xs:List T}:((List.range xs.length).all λk=>p (xs.getD k default))=xs.all p:=by rw[Bool.eq_iff_iff,List.all_eq_true,List.all_eq_true];constructor;{intro h x hx;obtain⟨i,hi,e⟩:=List.getElem_of_mem hx;have:=h i (List.mem_range.2 hi);rwa[aW hi,e]at this};{intro h i hi;exact h _ (cM (List.mem_range.1 hi))}
theorem bNa{qs:List Int}(h:qs.length<=1048576):sF qs=some (qs.all (M.inR 0 7)):=by
 unfold sF
 have key:=hM (n:=qs.length) (step:=kL qs) (λk=>(k:Int)) (λk=>M.inR 0 7 (qs.getD k default)) (JO.go ()) (.out false) (λk hk _=>by
  simp only[kL,iT];rw[dT (p:=(k:Int)<_) (by omega),cTq,aA ⟨by omega,by omega⟩,wT,oB,aF (by omega) (by omega)];cases M.inR 0 7 (qs.getD k default)<;>rfl) (λ_=>by
  simp only[kL];rw[dF (by omega),cFq])
 rw[bMp (p:=M.inR 0 7)]at key;show Option.bind (Option.bind (iter (kL qs) ((0:Nat):Int)) LO.val) _=_;rw[key];cases qs.all (M.inR 0 7)<;>rfl
theorem bNl{qs:List Int}{ps:List DSlot}{k:Nat}(h:k<qs.length):M.give ps (qs.take (k+1))=(M.give ps (qs.take k)).set (qs.getD k default).toNat M.nowhere:=by unfold M.give;rw[List.take_succ_eq_append_getElem h,List.foldl_append,aW h];rfl
section
variable {h : DHost} {g : Int} {x : DGuest}
theorem bRh(l:Live h g x){qs:List Int}{k:Nat}(hk:k<qs.length):(h.Guests.set g.toNat (M.giveG x (qs.take k))).set g.toNat ⟨(M.giveG x (qs.take k)).Live,(M.giveG x (qs.take k)).C,(M.giveG x (qs.take k)).Pages.set (qs.getD k default).toNat ⟨-1,false,false⟩,(M.giveG x (qs.take k)).In,(M.giveG x (qs.take k)).Out⟩=h.Guests.set g.toNat (M.giveG x (qs.take (k+1))):=by rw[List.set_set];show h.Guests.set g.toNat (⟨x.Live,x.C,(M.give x.Pages (qs.take k)).set (qs.getD k default).toNat M.nowhere,x.In,x.Out⟩:DGuest)=h.Guests.set g.toNat (⟨x.Live,x.C,M.give x.Pages (qs.take (k+1)),x.In,x.Out⟩:DGuest);rw[bNl hk]
theorem bMs(l:Live h g x):h.Guests.set g.toNat (M.giveG x (([]:List Int).take 0))=h.Guests:=by have e:M.giveG x (([]:List Int).take 0)=x:=rfl;rw[e,<-l.at_];exact uH
end
theorem bHm{h:DHost}{g:Int}{qs:List Int}(hs:SmallH h)(hq:qs.length<=1048576):mX h g qs=some (M.hostGive h g qs):=by
 unfold mX M.hostGive;rw[sR hs,oB];cases ht:M.there h g with
 |false=>rfl
 |true=>
  have l:=bM hs ht;have hk:=l.ok;have h3:=hk.three;have:=l.lo;have:=l.hi;have hp:=l.pages;rw[bT,cFq,bNa hq,oB,Bool.true_and];cases ho:qs.all (M.inR 0 7)with
  |false=>rfl
  |true=>
   rw[bT,cFq,gY hs hk,oB]
   have key:=hM (n:=qs.length) (step:=jB g qs) (λk=>(h.Guests.set g.toNat (M.giveG (h.Guests.getD g.toNat default) (qs.take k)),(k:Int))) (λ_=>true) (JO.go (h.Guests.set g.toNat (M.giveG (h.Guests.getD g.toNat default) qs))) (JO.go (h.Guests.set g.toNat (M.giveG (h.Guests.getD g.toNat default) qs))) (λk hk2 _=>by
    have e1:(h.Guests.set g.toNat (M.giveG (h.Guests.getD g.toNat default) (qs.take k))).getD g.toNat default=M.giveG (h.Guests.getD g.toNat default) (qs.take k):=aDx (by omega);have hl:(M.giveG (h.Guests.getD g.toNat default) (qs.take k)).Pages.length=8:=give_len.trans hp;have hr:=M.inR_iff.1 (List.all_eq_true.1 ho _ (cM hk2));simp only[jB,iT,e1];rw[dT (p:=(k:Int)<_) (by omega),cTq,aA ⟨by omega,by omega⟩,aA ⟨by omega,by rw[lS];omega⟩,aA ⟨by omega,by omega⟩,aF (by omega) (by omega),cTq];exact congrArg (λz=>some (LO.next (z,(k:Int)+1))) (bRh l hk2)) (λ_=>by
    simp only[jB];rw[dF (by omega),cFq,List.take_length])
   rw[Bool.cond_self]at key;have e0:h.Guests.set g.toNat (M.giveG (h.Guests.getD g.toNat default) (qs.take 0))=h.Guests:=bMs l;rw[e0]at key;show Option.bind (Option.bind (iter (jB g qs) (h.Guests,((0:Nat):Int))) LO.val) _=_;rw[key];rfl
def fB(ls:List Bool)(ps:List DSlot)(k:Nat):List Bool:=(List.range 8).map λp=>if p<k then ls.getD p default||(ps.getD p default).Dirty else ls.getD p default
section
variable {ls : List Bool} {ps : List DSlot} {k : Nat}
theorem eL:(fB ls ps k).length=8:=by simp[fB]
theorem kE{p:Nat}(hp:p<8):(fB ls ps k).getD p default=if p<k then ls.getD p default||(ps.getD p default).Dirty else ls.getD p default:=by rw[aW (by rw[eL];exact hp)];simp only[fB,List.getElem_map,List.getElem_range]
theorem aBx{xs ys:List Bool}(h1:xs.length=8)(h2:ys.length=8)(h:∀p,p<8->xs.getD p default=ys.getD p default):xs=ys:=by refine List.ext_getElem (by omega) λi q1 q2=>?_;have:=h i (by omega);rwa[aW q1,aW q2]at this
theorem aDw(h:ls.length=8):fB ls ps 0=ls:=aBx eL h λp hp=>by rw[kE hp,if_neg (by omega)]
theorem aHm:fB ls ps 8=M.dirtied ls ps:=aBx eL aDj λp hp=>by rw[kE hp,if_pos hp,aNc hp]
theorem yP(hk:k<8){b:Bool}(hb:b=(ls.getD k default||(ps.getD k default).Dirty)):(fB ls ps k).set k b=fB ls ps (k+1):=by refine aBx (by rw[lS,eL]) eL λp hp=>?_;rw[kE hp,List.getD_eq_getElem?_getD,List.getElem?_set];by_cases e:k=p;{subst e;rw[if_pos rfl,if_pos (by rw[eL];exact hk),if_pos (by omega)];exact hb};{rw[if_neg e,<-List.getD_eq_getElem?_getD,kE hp];by_cases q:p<k;{rw[if_pos q,if_pos (by omega)]};{rw[if_neg q,if_neg (by omega)]}}
theorem aUg(hk:k<8)(hd:(ps.getD k default).Dirty=false):fB ls ps k=fB ls ps (k+1):=by refine aBx eL eL λp hp=>?_;rw[kE hp,kE hp];by_cases e:p=k;{subst e;rw[if_neg (by omega),if_pos (by omega),hd,Bool.or_false]};{by_cases q:p<k;{rw[if_pos q,if_pos (by omega)]};{rw[if_neg q,if_neg (by omega)]}}
end
section
variable {m : DMove}
theorem bJb{h:DHost}{y:DGuest}(l:Live h m.G y)(hl:m.Left.length=8):iter (kK m) (m.Left,h.Guests,0)=some (.ret (.go (M.dirtied m.Left y.Pages,h.Guests.set m.G.toNat (M.mapG M.clean y)))):=by
 have h3:=l.ok.three;have:=l.lo;have:=l.hi;have hp:=l.pages
 have key:=hM (n:=8) (step:=kK m) (λk=>(fB m.Left y.Pages k,h.Guests.set m.G.toNat (M.upG M.clean k y),(k:Int))) (λ_=>true) (JO.go (M.dirtied m.Left y.Pages,h.Guests.set m.G.toNat (M.mapG M.clean y))) (JO.go (M.dirtied m.Left y.Pages,h.Guests.set m.G.toNat (M.mapG M.clean y))) (λk hk _=>by
  have hl:=aSk (f:=M.clean) (k:=k) (xs:=y.Pages);have hpl:(M.upG M.clean k y).Pages.length=8:=(by show(up M.clean k y.Pages).length=8;omega);have hq:=bSn (f:=M.clean) (k:=k) (xs:=y.Pages) (by omega);have hq2:(M.upG M.clean k y).Pages.getD k default=y.Pages.getD k default:=hq;have e1:(h.Guests.set m.G.toNat (M.upG M.clean k y)).getD m.G.toNat default=M.upG M.clean k y:=aDx (by omega);have dl:=eL (ls:=m.Left) (ps:=y.Pages) (k:=k);simp only[kK,iT,e1,hq2];rw[dT (p:=(k:Int)<8) (by omega),cTq,aA ⟨by omega,by rw[lS];omega⟩,aA ⟨by omega,by omega⟩];cases hd:(y.Pages.getD k default).Dirty with
  |true=>have hs:=aXn (f:=M.clean) (k:=k) (xs:=y.Pages) (by omega);rw[cTq,aA ⟨by omega,by rw[lS];omega⟩,aA ⟨by omega,by omega⟩,aA ⟨by omega,by omega⟩,yP hk (by rw[hd,Bool.or_true]),List.set_set];simp only[oB,JO.run,tC,cTq];rw[aF (by omega) (by omega)];show some (LO.next (fB m.Left y.Pages (k+1),h.Guests.set m.G.toNat (⟨y.Live,y.C,(up M.clean k y.Pages).set k ⟨(y.Pages.getD k default).Frame,(y.Pages.getD k default).Write,false⟩,y.In,y.Out⟩:DGuest),(k:Int)+1))=some (LO.next (fB m.Left y.Pages (k+1),h.Guests.set m.G.toNat (⟨y.Live,y.C,up M.clean (k+1) y.Pages,y.In,y.Out⟩:DGuest),((k+1:Nat):Int)));rw[<-hs];rfl
  |false=>simp only[cFq,oB,JO.run,tC,cTq];have hs:up M.clean k y.Pages=up M.clean (k+1) y.Pages:=bSz (by omega) (by generalize y.Pages.getD k default=s at hd;obtain⟨f,w,d⟩:=s;simp only at hd;subst hd;rfl);rw[aF (by omega) (by omega),<-aUg hk hd];unfold M.upG;rw[<-hs];rfl) (λ_=>by
  simp only[kK];rw[bTx (by omega),aHm];rfl)
 rw[Bool.cond_self]at key;have e0:h.Guests.set m.G.toNat (M.upG M.clean 0 y)=h.Guests:=(by rw[bPh,<-l.at_];exact uH);rw[e0,aDw hl]at key;exact key
theorem bHw{ws:List Int}(hl:ws.length=8):iter (kN ws) (true,0)=some (.ret (.go (M.zeros ws))):=by
 have key:=hM (n:=8) (step:=kN ws) (λk=>((List.range k).all λj=>decide (ws.getD j default=0),(k:Int))) (λ_=>true) (JO.go (M.zeros ws)) (.go true) (λk hk _=>by
  simp only[kN,iT];rw[dT (p:=(k:Int)<8) (by omega),cTq];have er:((List.range (k+1)).all λj=>decide (ws.getD j default=0))=(((List.range k).all λj=>decide (ws.getD j default=0))&&decide (ws.getD k default=0)):=(by rw[List.range_succ,List.all_append];simp);rw[er];cases((List.range k).all λj=>decide (ws.getD j default=0))with
  |true=>rw[cTq,aA ⟨by omega,by omega⟩];simp only[oB,JO.run,tQ,Bool.true_and,cTq];rw[aF (by omega) (by omega)];rfl
  |false=>simp only[cFq,oB,JO.run,tQ,Bool.false_and,cTq];rw[aF (by omega) (by omega)];rfl) (λ_=>by
  simp only[kN];rfl)
 rw[show(List.range 8).all (λ_=>true)=true by simp,cTq]at key;exact key
theorem bRf(hs:SmallM m){a:DAct}:pW m a=some (M.moveDo m a):=by unfold pW M.moveDo;rw[bRr hs,oB];(cases ho:M.moveOk m with|false=>rfl|true=>have k:=aYf hs ho;have l:=k.here;have t:=k.there;have hl8:=k.len;have t3:=t.ok.three;have t0:=t.lo;have t1:=t.hi;have tp:=t.pages;rw[bT,cFq,aHb k,oB,cTq];(cases h1:decide (a.Kind=1)with|true=>rw[cTq,cTq,bJr k.sf,oB];unfold M.moveStep;(cases e:(M.hostStep m.From m.G).2 with|false=>simp only[bF,cTq,oB,JO.run,cFq]|true=>obtain⟨y,ly⟩:=aVa k.sf e;simp only[bT,cFq];rw[bJb ly hl8];simp only[oB,LO.val,JO.run,zC,cTq];rw[sN ly,ly.at_])|false=>rw[cFq,cFq];simp only[oB,JO.run,aBd];(cases h2:decide (a.Kind=2)with|false=>rfl|true=>rw[bT,cFq,rC,oB,Bool.true_and];(cases hp:M.inR 0 7 a.Page with|false=>rfl|true=>obtain⟨p0,p1⟩:=M.inR_iff.1 hp;have ep:a.Page=((a.Page.toNat:Nat):Int):=(by omega);have wl:=nO l (p:=a.Page.toNat) (by omega);have pg:=bBu l (p:=a.Page.toNat) (by omega);rw[<-ep]at pg;have th:M.there m.To m.N=true:=wO t;rw[bT,cFq,cTq,pg,oB,bHw wl];simp only[oB,LO.val,JO.run,aAj];rw[aA ⟨p0,by omega⟩];unfold M.moveSend M.placeW;(cases hz:M.zeros (M.wordsAt m.From m.G a.Page.toNat)with|true=>have hq:([a.Page]:List Int).all (M.inR 0 7)=true:=(by rw[List.all_cons,hp];rfl);have eg:M.hostGive m.To m.N [a.Page]=(⟨m.To.Words,m.To.Guests.set m.N.toNat (M.giveG (m.To.Guests.getD m.N.toNat default) [a.Page])⟩,true):=(by unfold M.hostGive;rw[th,hq];rfl);rw[cTq,cTq,aA ⟨by omega,by omega⟩,aA ⟨p0,by omega⟩,eg];rfl|false=>rw[cFq,cFq,aSr k.st,oB];unfold M.framed;(cases f2:(M.hostFill m.To m.N a.Page).2 with|false=>simp only[cFq,oB,JO.run,uU];rw[bF,cTq,aHb k];rfl|true=>obtain⟨y1,-,-,g1⟩:=aPt k.st t f2;rw[cTq,cTq,aQo g1.small];simp only[oB,JO.run,uU];(cases c2:(M.hostCopy (M.hostFill m.To m.N a.Page).1 m.N a.Page).2 with|false=>rw[bF,cTq,aHb k];rfl|true=>obtain⟨y2,g2,yl,bw,bf⟩:=aPp g1.small g1.live c2;have l2:=g2.live;have l3:=l2.ok.three;have lw:=l2.ok.len;have hf:=aZ l2 (p:=a.Page.toNat) (by omega);rw[bT,cFq];unfold M.slotAt;simp only[l2.at_];rw[aF (z:=(y2.Pages.getD a.Page.toNat default).Frame*8) (by omega) (by omega),aA ⟨by omega,by omega⟩,aA ⟨p0,by omega⟩,aA ⟨by omega,by omega,by omega⟩,bOj wl (by omega),show Int.toNat ((y2.Pages.getD a.Page.toNat default).Frame*8)=(y2.Pages.getD a.Page.toNat default).Frame.toNat*8 by omega];rfl)))))))
theorem bId{h:DHost}{ok:Bool}{y:DGuest}(l:Live h m.G y)(hl:m.Left.length=8):iter (gB m (h,ok)) (m.Left,0)=some (.ret (.go (M.dirtied m.Left y.Pages))):=by
 have h3:=l.ok.three;have:=l.lo;have:=l.hi;have hp:=l.pages
 have key:=hM (n:=8) (step:=gB m (h,ok)) (λk=>(fB m.Left y.Pages k,(k:Int))) (λ_=>true) (JO.go (M.dirtied m.Left y.Pages)) (JO.go (M.dirtied m.Left y.Pages)) (λk hk _=>by
  have dl:=eL (ls:=m.Left) (ps:=y.Pages) (k:=k);have dg:=kE (ls:=m.Left) (ps:=y.Pages) (k:=k) hk;rw[if_neg (by omega)]at dg;simp only[gB,iT,l.at_,dg];rw[dT (p:=(k:Int)<_) (by omega),cTq,aA ⟨by omega,by omega⟩,aA ⟨by omega,by omega⟩];cases hb:m.Left.getD k default with
  |true=>rw[cTq,aA ⟨by omega,by omega⟩,yP hk (by rw[hb,Bool.true_or])];simp only[oB,JO.run,oH,cTq];rw[aF (by omega) (by omega)];rfl
  |false=>rw[cFq,aA ⟨by omega,by omega⟩,yP hk (by rw[hb,Bool.false_or])];simp only[oB,JO.run,oH,cTq];rw[aF (by omega) (by omega)];rfl) (λ_=>by
  simp only[gB,l.at_];rw[dF (by omega),aHm];rfl)
 rw[Bool.cond_self,aDw hl]at key;exact key
theorem aWu{x y:DGuest}(k:MOk m x y):nF m=some (M.moveStep m):=by have hl8:=k.len;unfold nF M.moveStep;rw[aHh k,oB,bIq k.sf,oB];(cases e:(M.hostStep m.From m.G).2 with|false=>rfl|true=>obtain⟨y1,ly⟩:=aVa k.sf e;have l3:=ly.ok.three;have:=ly.lo;have:=ly.hi;have lp:=ly.pages;have sl:=bId (ok:=(M.hostStep m.From m.G).2) ly hl8;rw[bT,cFq,aA ⟨by omega,by omega⟩,sl,cTq];simp only[oB,LO.val,JO.run,vM];rw[ly.at_,aA ⟨by omega,by omega⟩,bJa (by omega),oB,aA ⟨by omega,by omega⟩,sN ly];rfl)
theorem bDm{h:DHost}{g p:Int}{y:DGuest}{ws:List Int}(hs:SmallH h)(l:Live h g y)(p0:0<=p)(p1:p<=7)(h8:ws.length=8):iJ h g p ws=some (M.placeW h g p ws):=by unfold iJ M.placeW;rw[bJp h8,oB];(cases hz:M.zeros ws with|true=>rw[cTq,bHm hs (by simp)];rfl|false=>rw[cFq,cFq,aRp hs,oB];unfold M.framed;(cases f2:(M.hostFill h g p).2 with|false=>rfl|true=>obtain⟨y1,-,-,g1⟩:=aPt hs l f2;rw[bT,cFq,cTq,aSf g1.small,oB];(cases c2:(M.hostCopy (M.hostFill h g p).1 g p).2 with|false=>rfl|true=>obtain⟨y2,g2,yl,bw,bf⟩:=aPp g1.small g1.live c2;have l2:=g2.live;have l3:=l2.ok.three;have lw:=l2.ok.len;have:=l2.lo;have:=l2.hi;have hf:=aZ l2 (p:=p.toNat) (by omega);rw[bT,cFq,cTq];unfold M.slotAt;simp only[l2.at_];rw[aA ⟨by omega,by omega⟩,aA ⟨p0,by omega⟩,aYz bf (by omega) (by omega),oB,aA rfl,aA (by simp only[];omega)])))
theorem bIg{x y:DGuest}(k:MOk m x y){q:Int}(q0:0<=q)(q1:q<=7):qX m q=some (M.moveSend m q):=by have l:=k.here;have t:=k.there;have l3:=l.ok.three;have:=l.lo;have:=l.hi;have lp:=l.pages;have hl8:=k.len;unfold qX M.moveSend;simp only[l.at_];rw[aHh k,oB,aA ⟨by omega,by omega⟩,aA ⟨by omega,by omega⟩];show Option.bind (bZ m.From.Words (x.Pages.getD q.toNat default)) _=_;rw[tW l.ok.len (aZ l (by omega)),oB,<-vS l,bDm k.st t q0 q1 (nO l (by omega)),oB];(cases(M.placeW m.To m.N q (M.wordsAt m.From m.G q.toNat)).2 with|false=>rfl|true=>rw[bT,cFq,aA ⟨by omega,by omega⟩];rfl)
theorem bOk(hs:SmallM m){a:DAct}:mO m a=some (M.moveDo m a):=by unfold mO M.moveDo;rw[bQf hs,oB];(cases ho:M.moveOk m with|false=>rfl|true=>have k:=aYf hs ho;rw[bT,cFq,cTq];(cases h1:decide (a.Kind=1)with|true=>rw[cTq,aWu k];rfl|false=>rw[cFq,cFq];(cases h2:decide (a.Kind=2)with|false=>rfl|true=>rw[cTq,wT,oB,Bool.true_and];(cases hp:M.inR 0 7 a.Page with|false=>rfl|true=>obtain⟨p0,p1⟩:=M.inR_iff.1 hp;rw[cTq,bIg k p0 p1];rfl))))
end
theorem bDh{m:DMove}{a:DAct}(hf:FitM m):kZ m a=some true:=by unfold kZ;obtain⟨v,hv,hs⟩:=bKi hf (left:=1048576) (by omega) (by omega);rw[hv];simp only[oB];rcases hs with h0|⟨h0,-,hs⟩;{rw[cDm h0];rfl};{have hz:=bPa (a:=a) hs;have ta:oO a=some a:=rfl;have m1:=aYg (k:=1) hs;have m2:=aYg (k:=1) hz;have hk:=bDi (k:=1) hz (by omega) (by omega);rw[dF (by omega),cFq];simp only[bNr hs,ta,bOk hs,bRf hs,oB,aWh hs,aWh hz,decide_true,bT,cFq,beq_self_eq_true,aMq hs (k:=1) (by omega) (by omega),aMq hz (k:=1) (by omega) (by omega),aYl,hk];rw[aA True.intro,aA True.intro,aA True.intro,aA True.intro,aA True.intro,dF (by omega),cFq,aA True.intro,aA True.intro,aA True.intro,aA True.intro,aA True.intro,dF (by omega)];rfl}
end Go.Proofs.YtcgggihjcelmhaaGreat
