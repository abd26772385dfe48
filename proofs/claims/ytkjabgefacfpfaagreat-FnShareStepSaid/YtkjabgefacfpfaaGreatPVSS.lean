/- The plain functions: what they answer. -/
import Derived.Test.YtkjabgefacfpfaaGreatPTA
import Derived.Test.YtkjabgefacfpfaaGreatWFSS1
import Derived.Test.YtkjabgefacfpfaaGreatZY
namespace Go.Proofs.YtkjabgefacfpfaaGreat
set_option linter.all false
theorem aQj{h:DHost}{g p:Int}{x:DGuest}(l:Live h g x)(p0:0<=p)(p1:p<=7)(h2:(M.inFree h g p).2=true):∃f,0<=f/\f<20/\M.many (M.slots h.Guests) f=0/\M.inFree h g p=(M.inFrame h g p f,true):=by unfold M.inFree at h2 ⊢;by_cases e:(M.free (M.slots h.Guests)).length=0;{rw[dT e]at h2;cases h2};{have hf:=bEj (ss:=M.slots h.Guests) (i:=0) (by omega);exact⟨_,hf.1,hf.2,bNi (by omega),by rw[dF e];rfl⟩}
theorem aRz{h:DHost}{g f:Int}{x:DGuest}(l:Live h g x){p:Nat}(hp:p<8)(hm:M.many (M.slots h.Guests) f=0):(x.Pages.getD p default).Frame≠f:=by intro e;have:=aVa l hp;rw[e,hm]at this;omega
theorem bGz{h:DHost}{g p:Int}(hs:SmallH h)(h2:(M.hostFill h g p).2=true):∃x,Live h g x/\0<=p/\p<=7/\
 ((M.hostFill h g p=(h,true)/\(x.Pages.getD p.toNat default).Frame≠-1)\/∃f,0<=f/\f<20/\M.many (M.slots h.Guests) f=0/\M.hostFill h g p=(M.inFrame h g p f,true)):=by
 unfold M.hostFill at h2 ⊢;(cases ht:M.there h g with|false=>rw[ht]at h2;cases h2|true=>have l:=fL hs ht;(cases hp:M.inR 0 7 p with|false=>rw[ht,hp]at h2;cases h2|true=>obtain⟨p0,p1⟩:=M.inR_iff.1 hp;rw[ht,hp,Bool.and_self,cTq]at h2;refine⟨_,l,p0,p1,?_⟩;rw[Bool.and_self,cTq];by_cases e:((h.Guests.getD g.toNat default).Pages.getD p.toNat default).Frame=-1;{rw[dT e,cTq]at h2 ⊢;exact .inr (aQj l p0 p1 h2)};{rw[dF e,cFq];exact .inl ⟨rfl,e⟩}))
theorem bFx{h:DHost}{g p f:Int}{x:DGuest}(l:Live h g x)(p0:0<=p)(p1:p<=7):(M.inFrame h g p f).Guests.getD g.toNat default=iS x p.toNat f/\(iS x p.toNat f).Pages.length=8/\(iS x p.toNat f).Pages.getD p.toNat default=⟨f,true,(x.Pages.getD p.toNat default).Dirty⟩:=by have:=l.lo;have:=l.hi;have hpl:=l.pages;have h1:=aNf l (p:=p) (f:=f) (k:=g.toNat) (by omega);rw[if_pos (by omega)]at h1;refine⟨h1,by unfold iS;rw[lS];exact hpl,?_⟩;show(x.Pages.set p.toNat _).getD p.toNat default=_;rw[bN (by rw[lS];omega),List.getElem_set_self]
theorem bQv{h:DHost}{g:Int}{x:DGuest}(l:Live h g x):M.bareOk ⟨x.C,M.mem h.Words x.Pages,x.In,x.Out⟩=true:=by
 have hk:=l.ok;unfold M.bareOk M.memOk;simp only[bA,decide_eq_true_eq];refine⟨⟨⟨l.core,fZ,?_⟩,l.inn⟩,l.out⟩;simp only[M.wordsOk,List.all_eq_true,M.mem,List.mem_map,List.mem_range]
 rintro w ⟨a,ha,rfl⟩
 unfold M.word M.wordOk;rw[M.inR_iff];have hr:=aKu l.slots (i:=a/8) (by rw[l.pages];omega);split;{omega};{exact mP hk.words (by rw[hk.len];omega)}
namespace M
def vw(ws:List Int)(x:DGuest):DBare:=⟨x.C,mem ws x.Pages,x.In,x.Out⟩
def mach(x:DGuest):DBare:=⟨x.C,[],x.In,x.Out⟩
def withM(h:DHost)(g:Int)(x:DGuest)(b:DBare):DHost:=⟨h.Words,h.Guests.set g.toNat ⟨x.Live,b.C,x.Pages,b.In,b.Out⟩⟩
def busy(c:DCore):Bool:=c.Stopped||((tick c).Waits&&(tick c).On)
def wpc(b:DBare):Int:=walk b.Mem b.C.Root b.C.Pc b.C.User false
def inst(b:DBare):DIns:=ins (b.Mem.getD (wpc b).toNat default)
def adr(b:DBare):Int:=reg b.C ((inst b).N%4)%64
def isSt(b:DBare):Bool:=decide ((inst b).Op=4)
def wad(b:DBare):Int:=walk b.Mem b.C.Root (adr b) b.C.User (isSt b)
def reads(b:DBare):Bool:=!busy b.C&&!decide (wpc b=-1)
def comes(b:DBare):Bool:=reads b&&(decide ((inst b).Op=3)||isSt b)&&!decide (wad b=-1)
def lackS(s:DSlot)(w:Bool):Bool:=decide (s.Frame=-1)||(w&&!s.Write)
def one(b:Bool):Nat:=bif b then 1 else 0
def cnt(ps:List DSlot)(b:DBare):Nat:=one (reads b&&lackS (ps.getD (wpc b/8).toNat default) false)+one (comes b&&lackS (ps.getD (wad b/8).toNat default) (isSt b))
def e0:DExit:=⟨0,0,⟨0,0,0⟩⟩
def aExit(s:DShade)(why:Int):DExit:=bif decide (why=2)then⟨2,s.Page,⟨0,0,0⟩⟩else bif decide (why=3)then⟨3,s.Page,⟨0,0,0⟩⟩else e0
def shadeAt(ws:List Int)(x:DGuest)(a:Int):DShade:=shade ws x (a/8).toNat
def placeAt(ws:List Int)(x:DGuest)(a:Int)(w:Bool):Int×Int:=place (shadeAt ws x a) a x.C.User w
def iExit(ws:List Int)(x:DGuest)(i:DIns):DExit:=
 bif kern i.Op&&!x.C.User then⟨1,0,i⟩
 else bif decide (i.Op=3)||decide (i.Op=4)then aExit (shadeAt ws x (reg x.C (i.N%4)%64)) (placeAt ws x (reg x.C (i.N%4)%64) (decide (i.Op=4))).2
 else e0
def xExit(ws:List Int)(x:DGuest):DExit:=
 bif busy x.C then e0
 else bif !decide ((placeAt ws x x.C.Pc false).2=0)then aExit (shadeAt ws x x.C.Pc) (placeAt ws x x.C.Pc false).2
 else iExit ws x (ins (ws.getD (placeAt ws x x.C.Pc false).1.toNat default))
noncomputable def guestExit (h:DHost)(g:Int):DExit:=bif there h g then xExit h.Words (h.Guests.getD g.toNat default)else e0
def lacks(e:DExit):Bool:=decide (e.Why=2)||decide (e.Why=3)
noncomputable def answered (h:DHost)(g:Int)(e:DExit):DHost×Bool:=bif decide (e.Why=2)then hostFill h g e.Page else hostCopy h g e.Page
noncomputable def ready (g:Int):Nat->DHost->Option DHost
 |0,h=>some h
 |n+1,h=>bif lacks (guestExit h g)then(bif (answered h g (guestExit h g)).2 then ready g n (answered h g (guestExit h g)).1 else none)else some h
def wrote(b:DBare):Bool:=comes b&&isSt b
def dirty(x:DGuest)(p:Nat):DSlot:=⟨(x.Pages.getD p default).Frame,(x.Pages.getD p default).Write,true⟩
def ran(h:DHost)(g:Int)(x:DGuest):DHost:=
 bif wrote (vw h.Words x)then
  ⟨h.Words.set ((x.Pages.getD (wad (vw h.Words x)/8).toNat default).Frame*8+wad (vw h.Words x)%8).toNat (reg x.C (inst (vw h.Words x)).A),h.Guests.set g.toNat ⟨x.Live,(step (vw h.Words x)).C,x.Pages.set (wad (vw h.Words x)/8).toNat (dirty x (wad (vw h.Words x)/8).toNat),(step (vw h.Words x)).In,(step (vw h.Words x)).Out⟩⟩
 else withM h g x (step (vw h.Words x))
noncomputable def hostStep (h:DHost)(g:Int):DHost×Bool:=bif there h g then
 (match ready g 8 h with
 |some h'=>(ran h' g (h'.Guests.getD g.toNat default),true)
 |none=>(h,false))
 else(zeroH,false)
end M
section
variable (c : DCore)
theorem vS:(M.tick c).Pc=c.Pc:=by unfold M.tick;cases decide (c.Timer=0)<;>rfl
theorem aUu:(M.tick c).Root=c.Root:=by unfold M.tick;cases decide (c.Timer=0)<;>rfl
theorem aVe:(M.tick c).User=c.User:=by unfold M.tick;cases decide (c.Timer=0)<;>rfl
theorem bIp:(M.tick c).Regs=c.Regs:=by unfold M.tick;cases decide (c.Timer=0)<;>rfl
theorem aOs(k:Int):M.reg (M.tick c) k=M.reg c k:=by unfold M.reg;rw[bIp]
end
theorem aSn{b:DBare}(hb:BOk b):M.insOk (M.inst b)=true:=by have hm:0<=b.Mem.getD (M.wpc b).toNat default/\b.Mem.getD (M.wpc b).toNat default<=4095:=(by by_cases h:M.wpc b=-1;{rw[h];exact aBh hb (z:=0) (by omega) (by omega)};{have hw:=aEb _ _ _ _ _ h;exact aBh hb hw.1 hw.2});exact aQz hm.1 hm.2
section
variable {h : DHost} {g : Int} {x : DGuest}
theorem pG(l:Live h g x):BOk (M.vw h.Words x):=bEo.1 (bQv l)
theorem bIe(l:Live h g x){a:Int}{w:Bool}(a0:0<=a)(a1:a<=63):
 M.walk (M.mem h.Words x.Pages) x.C.Root a x.C.User w=(bif M.sLets (M.shadeAt h.Words x a) x.C.User w then(M.shadeAt h.Words x a).Page*8+a%8 else-1):=by
 have hb:=pG l;have hr:=aUo l.core;unfold M.walk;rw[show M.memOk (M.mem h.Words x.Pages)=true from hb.mem,M.inR_iff.2 hr,M.inR_iff.2 ⟨a0,a1⟩];simp only[Bool.and_self,cTq];by_cases e:x.C.Root=-1;{rw[dT e,cTq];have es:M.shadeAt h.Words x a=M.shadeFor x ⟨true,true,true,(((a/8).toNat:Nat):Int)⟩:=(by unfold M.shadeAt M.shade M.entry;rw[if_pos e]);rw[es];simp only[M.sLets,M.shadeFor,Bool.true_or,Bool.and_self,cTq];omega};{rw[dF e,cFq];have es:M.shadeAt h.Words x a=M.shadeFor x (dec ((M.mem h.Words x.Pages).getD (x.C.Root*8+a/8).toNat default)):=(by unfold M.shadeAt M.shade M.entry;rw[if_neg e,kH (by omega),show(x.C.Root*8+a/8).toNat=x.C.Root.toNat*8+(a/8).toNat by omega]);rw[es];rfl}
theorem uM(l:Live h g x){a:Int}{w:Bool}(a0:0<=a)(a1:a<=63){t:Int}(ht:M.walk (M.mem h.Words x.Pages) x.C.Root a x.C.User w=t):
 (t=-1/\M.placeAt h.Words x a w=(-1,1))\/
 (0<=t/\t<64/\(M.shadeAt h.Words x a).Page=t/8/\M.placeAt h.Words x a w=bif decide ((x.Pages.getD (t/8).toNat default).Frame=-1)then(-1,2)else bif w&&!(x.Pages.getD (t/8).toNat default).Write then(-1,3)else((x.Pages.getD (t/8).toNat default).Frame*8+t%8,0)):=by
 rw[bIe l a0 a1]at ht;have hp:=aGm l (p:=(a/8).toNat) (by omega);have e1:(M.shadeAt h.Words x a).Page=(M.entry h.Words x (a/8).toNat).Page:=rfl;unfold M.placeAt M.place;(cases hl:M.sLets (M.shadeAt h.Words x a) x.C.User w with|false=>rw[hl,cFq]at ht;exact .inl ⟨ht.symm,rfl⟩|true=>rw[hl,cTq]at ht;have e2:(M.shadeAt h.Words x a).Page=t/8:=(by omega);refine .inr ⟨by omega,by omega,e2,?_⟩;have e3:(M.shadeAt h.Words x a).Frame=(x.Pages.getD (t/8).toNat default).Frame:=(by rw[<-e2];rfl);have e4:(M.shadeAt h.Words x a).Ready=(x.Pages.getD (t/8).toNat default).Write:=(by rw[<-e2];rfl);rw[e3,e4,show t%8=a%8 by omega];rfl)
theorem aTf(l:Live h g x){t:Int}(t0:0<=t)(t1:t<64)(hf:(x.Pages.getD (t/8).toNat default).Frame≠-1):
 h.Words.getD ((x.Pages.getD (t/8).toNat default).Frame*8+t%8).toNat default=(M.mem h.Words x.Pages).getD t.toNat default:=by
 have hr:=cS l (p:=(t/8).toNat) (by omega);rw[kH (by omega)];unfold M.word;rw[show t.toNat/8=(t/8).toNat by omega,if_neg (by omega)];congr 1;omega
theorem bQa{op:Int}(h:M.kern op=true):op≠3/\op≠4:=by constructor<;>rintro rfl<;>exact absurd h (by decide)
theorem aRs(b:DBare)(h:M.busy b.C=true):M.reads b=false/\M.comes b=false:=by unfold M.comes M.reads;rw[h];exact⟨rfl,rfl⟩
theorem aRa(l:Live h g x):
 ((M.xExit h.Words x).Why=2/\∃t,0<=t/\t<64/\(M.xExit h.Words x).Page=t/8/\(x.Pages.getD (t/8).toNat default).Frame=-1/\((M.reads (M.vw h.Words x)=true/\t=M.wpc (M.vw h.Words x))\/(M.comes (M.vw h.Words x)=true/\t=M.wad (M.vw h.Words x))))\/
 ((M.xExit h.Words x).Why=3/\∃t,0<=t/\t<64/\(M.xExit h.Words x).Page=t/8/\(x.Pages.getD (t/8).toNat default).Frame≠-1/\(x.Pages.getD (t/8).toNat default).Write=false/\M.comes (M.vw h.Words x)=true/\t=M.wad (M.vw h.Words x)/\M.isSt (M.vw h.Words x)=true)\/
 ((M.xExit h.Words x=M.e0\/(M.xExit h.Words x=⟨1,0,M.inst (M.vw h.Words x)⟩/\M.kern (M.inst (M.vw h.Words x)).Op=true/\x.C.User=false))/\M.cnt x.Pages (M.vw h.Words x)=0):=by
 have hb:=pG l;unfold M.xExit;cases hbz:M.busy x.C with
 |true=>obtain⟨h1,h2⟩:=aRs (M.vw h.Words x) hbz;refine .inr (.inr ⟨.inl rfl,?_⟩);unfold M.cnt;rw[h1,h2];rfl
 |false=>
  rw[cFq];have hrd:M.reads (M.vw h.Words x)=!decide (M.wpc (M.vw h.Words x)=-1):=(by unfold M.reads;rw[show M.busy (M.vw h.Words x).C=false from hbz];rfl);rcases uM l (a:=x.C.Pc) (w:=false) hb.pc.1 hb.pc.2 (t:=M.wpc (M.vw h.Words x)) rfl with⟨ht,hp⟩|⟨t0,t1,hpg,hp⟩;{have h1:M.reads (M.vw h.Words x)=false:=(by rw[hrd,dT (show M.wpc (M.vw h.Words x)=-1 from ht)];rfl);have h2:M.comes (M.vw h.Words x)=false:=(by unfold M.comes;rw[h1];rfl);rw[hp];refine .inr (.inr ⟨.inl rfl,?_⟩);unfold M.cnt;rw[h1,h2];rfl}
  · have h1:M.reads (M.vw h.Words x)=true:=by rw[hrd,dF (show¬M.wpc (M.vw h.Words x)=-1 by have:0<=M.wpc (M.vw h.Words x):=t0;omega)];rfl
    by_cases hf:(x.Pages.getD (M.wpc (M.vw h.Words x)/8).toNat default).Frame=-1;{rw[dT hf]at hp;rw[hp];exact .inl ⟨rfl,M.wpc (M.vw h.Words x),t0,t1,hpg,hf,.inl ⟨h1,rfl⟩⟩}
    · rw[dF hf,cFq,Bool.false_and,cFq]at hp
      have hw:=aTf l t0 t1 hf;rw[hp];simp only[decide_true,bT,cFq];rw[show M.ins (h.Words.getD ((x.Pages.getD (M.wpc (M.vw h.Words x)/8).toNat default).Frame*8+M.wpc (M.vw h.Words x)%8).toNat default)=M.inst (M.vw h.Words x) by rw[hw];rfl];have hl1:M.lackS (x.Pages.getD (M.wpc (M.vw h.Words x)/8).toNat default) false=false:=(by unfold M.lackS;rw[dF hf];rfl);generalize hi:M.inst (M.vw h.Words x)=i;unfold M.iExit;cases hk:M.kern i.Op with
      |true=>obtain⟨n3,n4⟩:=bQa hk;have h2:M.comes (M.vw h.Words x)=false:=(by unfold M.comes M.isSt;rw[hi,dF n3,dF n4];simp);have hc:M.cnt x.Pages (M.vw h.Words x)=0:=(by unfold M.cnt;rw[h2,hl1];simp[M.one]);(cases hu:x.C.User with|false=>exact .inr (.inr ⟨.inr ⟨rfl,rfl,rfl⟩,hc⟩)|true=>simp only[bT,Bool.and_false,cFq];rw[dF n3,dF n4];exact .inr (.inr ⟨.inl rfl,hc⟩))
      |false=>
       rw[Bool.false_and,cFq];by_cases ho:i.Op=3\/i.Op=4;{have eo:(decide (i.Op=3)||decide (i.Op=4))=true:=(by simpa using ho);have ead:M.reg x.C (i.N%4)%64=M.adr (M.vw h.Words x):=(by unfold M.adr;rw[hi];rfl);have est:decide (i.Op=4)=M.isSt (M.vw h.Words x):=(by unfold M.isSt;rw[hi]);have hco:M.comes (M.vw h.Words x)=!decide (M.wad (M.vw h.Words x)=-1):=(by unfold M.comes;rw[h1,<-est,hi,eo];rfl);have har:0<=M.adr (M.vw h.Words x)/\M.adr (M.vw h.Words x)<=63:=(by unfold M.adr;omega);rw[eo,cTq,ead,est];rcases uM l (a:=M.adr (M.vw h.Words x)) (w:=M.isSt (M.vw h.Words x)) har.1 har.2 (t:=M.wad (M.vw h.Words x)) rfl with⟨ht,hp⟩|⟨t0,t1,hpg,hp⟩;{have h2:M.comes (M.vw h.Words x)=false:=(by rw[hco,dT ht];rfl);rw[hp];refine .inr (.inr ⟨.inl rfl,?_⟩);unfold M.cnt;rw[h2,hl1];simp[M.one]};{have h2:M.comes (M.vw h.Words x)=true:=(by rw[hco,dF (by omega)];rfl);by_cases hf2:(x.Pages.getD (M.wad (M.vw h.Words x)/8).toNat default).Frame=-1;{rw[dT hf2,cTq]at hp;rw[hp];exact .inl ⟨rfl,_,t0,t1,hpg,hf2,.inr ⟨h2,rfl⟩⟩};{rw[dF hf2,cFq]at hp;(cases hw2:M.isSt (M.vw h.Words x)&&!(x.Pages.getD (M.wad (M.vw h.Words x)/8).toNat default).Write with|true=>rw[hw2,cTq]at hp;rw[hp];rw[bA,Bool.not_eq_true']at hw2;exact .inr (.inl ⟨rfl,_,t0,t1,hpg,hf2,hw2.2,h2,rfl,hw2.1⟩)|false=>rw[hw2,cFq]at hp;rw[hp];refine .inr (.inr ⟨.inl rfl,?_⟩);have hl2:M.lackS (x.Pages.getD (M.wad (M.vw h.Words x)/8).toNat default) (M.isSt (M.vw h.Words x))=false:=(by unfold M.lackS;rw[dF hf2,hw2];rfl);unfold M.cnt;rw[hl1,hl2];simp[M.one])}}}
       · have eo:(decide (i.Op=3)||decide (i.Op=4))=false:=by
          rw[Bool.or_eq_false_iff,decide_eq_false_iff_not,decide_eq_false_iff_not];exact not_or.1 ho
         have h2:M.comes (M.vw h.Words x)=false:=(by unfold M.comes M.isSt;rw[hi,eo];simp);rw[eo,cFq];refine .inr (.inr ⟨.inl rfl,?_⟩);unfold M.cnt;rw[h2,hl1];simp[M.one]
end
theorem bHv{h:DHost}{g p:Int}(hs:SmallH h)(h2:(M.hostCopy h g p).2=true):∃x f,Live h g x/\0<=p/\p<=7/\0<=f/\f<20/\M.hostCopy h g p=(M.inFrame h g p f,true)/\
 (((x.Pages.getD p.toNat default).Frame=f/\M.many (M.slots h.Guests) f=1)\/M.many (M.slots h.Guests) f=0):=by
 unfold M.hostCopy at h2 ⊢;(cases ht:M.there h g with|false=>rw[ht]at h2;cases h2|true=>have l:=fL hs ht;(cases hp:M.inR 0 7 p with|false=>rw[ht,hp]at h2;cases h2|true=>obtain⟨p0,p1⟩:=M.inR_iff.1 hp;have hsl:=cS l (p:=p.toNat) (by omega);rw[ht,hp,Bool.and_self,cTq]at h2;rw[Bool.and_self,cTq];by_cases e:((h.Guests.getD g.toNat default).Pages.getD p.toNat default).Frame=-1;{rw[dT e]at h2;cases h2};{rw[dF e,cFq]at h2 ⊢;by_cases q:M.many (M.slots h.Guests) ((h.Guests.getD g.toNat default).Pages.getD p.toNat default).Frame=1;{refine⟨_,_,l,p0,p1,by omega,hsl.2,by rw[dT q,cTq],.inl ⟨rfl,q⟩⟩};{rw[dF q,cFq]at h2 ⊢;obtain⟨f,f0,f1,hm,e2⟩:=aQj l p0 p1 h2;exact⟨_,f,l,p0,p1,f0,f1,e2,.inr hm⟩}}))
def one(f:Int)(t:DSlot):Int:=if t.Frame=f then 1 else 0
section
variable {h : DHost} {g : Int} {x : DGuest}
theorem aHh(l:Live h g x):M.there h g=true:=pW.2 ⟨l.ok,l.lo,l.hi,by rw[l.at_];exact l.live⟩
theorem yS(l:Live h g x):M.guestExit h g=M.xExit h.Words x:=by unfold M.guestExit;rw[aHh l,cTq,l.at_]
theorem aJj(l:Live h g x):M.hostView h g=(M.vw h.Words x,true):=by unfold M.hostView;rw[aHh l,cTq,l.at_];rfl
theorem aQu(hs:SmallH h)(l:Live h g x){p f:Int}(p0:0<=p)(p1:p<=7)(f0:0<=f)(f1:f<20)(hok:HOk (M.inFrame h g p f)):Live (M.inFrame h g p f) g (iS x p.toNat f):=by have g0:=l.lo;have g1:=l.hi;have hg:=(bFx (f:=f) l p0 p1).1;have:=fL (aDf (p:=p) (f:=f) hs l f0 f1) (pW.2 ⟨hok,g0,g1,by rw[hg];exact l.live⟩);rwa[hg]at this
theorem aYo(l:Live h g x){p q:Nat}{f:Int}(hp:p<8)(f0:0<=f){w:Bool}:M.lackS ((iS x p f).Pages.getD q default) w=if q=p then false else M.lackS (x.Pages.getD q default) w:=by have hpl:=l.pages;show M.lackS ((x.Pages.set p _).getD q default) w=_;by_cases e:q=p;{subst e;rw[if_pos rfl,bN (by rw[lS];omega),List.getElem_set_self];unfold M.lackS;simp only[bT,Bool.and_false,Bool.or_false];exact dF (by omega)};{rw[if_neg e];congr 1;simp only[List.getD_eq_getElem?_getD,List.getElem?_set];rw[if_neg (by omega)]}
theorem bJf{a b:Bool}(h:a=true->b=true):M.one a<=M.one b:=by cases a;{exact Nat.zero_le _};{rw[h rfl];exact Nat.le_refl _}
theorem bEn (l:Live h g x) {p:Nat} {f:Int} (hp:p<8) (f0:0<=f) {b:DBare}
 (hl:(M.reads b=true/\(M.wpc b/8).toNat=p/\M.lackS (x.Pages.getD p default) false=true)\/(M.comes b=true/\(M.wad b/8).toNat=p/\M.lackS (x.Pages.getD p default) (M.isSt b)=true)):
 M.cnt (iS x p f).Pages b<M.cnt x.Pages b:=by
 unfold M.cnt;rw[aYo l hp f0,aYo l hp f0];have h1:M.one (M.reads b&&if(M.wpc b/8).toNat=p then false else M.lackS (x.Pages.getD (M.wpc b/8).toNat default) false)<=M.one (M.reads b&&M.lackS (x.Pages.getD (M.wpc b/8).toNat default) false):=bJf λh=>by split at h;{simp at h};{exact h}
 have h2:M.one (M.comes b&&if(M.wad b/8).toNat=p then false else M.lackS (x.Pages.getD (M.wad b/8).toNat default) (M.isSt b))<=M.one (M.comes b&&M.lackS (x.Pages.getD (M.wad b/8).toNat default) (M.isSt b)):=bJf λh=>by split at h;{simp at h};{exact h}
 rcases hl with⟨a1,a2,a3⟩|⟨a1,a2,a3⟩;{have e1:M.one (M.reads b&&M.lackS (x.Pages.getD (M.wpc b/8).toNat default) false)=1:=(by rw[a1,a2,a3];rfl);have e2:M.one (M.reads b&&if(M.wpc b/8).toNat=p then false else M.lackS (x.Pages.getD (M.wpc b/8).toNat default) false)=0:=(by rw[if_pos a2,Bool.and_false];rfl);omega};{have e1:M.one (M.comes b&&M.lackS (x.Pages.getD (M.wad b/8).toNat default) (M.isSt b))=1:=(by rw[a1,a2,a3];rfl);have e2:M.one (M.comes b&&if(M.wad b/8).toNat=p then false else M.lackS (x.Pages.getD (M.wad b/8).toNat default) (M.isSt b))=0:=(by rw[if_pos a2,Bool.and_false];rfl);omega}
theorem aNb(hs:SmallH h)(l:Live h g x)(hk:M.lacks (M.xExit h.Words x)=true)(ha:(M.answered h g (M.xExit h.Words x)).2=true):
 ∃f,0<=(M.xExit h.Words x).Page/\(M.xExit h.Words x).Page<=7/\0<=f/\f<20/\M.answered h g (M.xExit h.Words x)=(M.inFrame h g (M.xExit h.Words x).Page f,true)/\
  HOk (M.inFrame h g (M.xExit h.Words x).Page f)/\
  (((x.Pages.getD (M.xExit h.Words x).Page.toNat default).Frame=f/\M.many (M.slots h.Guests) f=1)\/M.many (M.slots h.Guests) f=0)/\
  M.cnt (iS x (M.xExit h.Words x).Page.toNat f).Pages (M.vw h.Words x)<M.cnt x.Pages (M.vw h.Words x):=by
 rcases aRa l with⟨hw,t,t0,t1,hpg,hf,hc⟩|⟨hw,t,t0,t1,hpg,hf,hwr,hc,ht,hst⟩|⟨hc,_⟩
 · have ea:M.answered h g (M.xExit h.Words x)=M.hostFill h g (M.xExit h.Words x).Page:=by unfold M.answered;rw[hw];rfl
   rw[ea]at ha ⊢;obtain⟨x',l',p0,p1,hcs⟩:=bGz hs ha;have ex:x'=x:=l'.at_.symm.trans l.at_;subst ex;rcases hcs with⟨_,hne⟩|⟨f,f0,f1,hm,e⟩;{rw[hpg]at hne;exact absurd hf hne}
   · refine⟨f,p0,p1,f0,f1,e,bAo l p0 p1 f0 f1 (by rw[hm,if_neg (aRz l (by omega) hm)]),.inr hm,bEn l (by omega) f0 ?_⟩
     have hlk:∀w,M.lackS (x'.Pages.getD (M.xExit h.Words x').Page.toNat default) w=true:=λw=>by unfold M.lackS;rw[hpg,dT hf];rfl
     rcases hc with⟨h1,h2⟩|⟨h1,h2⟩;{exact .inl ⟨h1,by rw[hpg,h2],hlk _⟩};{exact .inr ⟨h1,by rw[hpg,h2],hlk _⟩}
 · have ea:M.answered h g (M.xExit h.Words x)=M.hostCopy h g (M.xExit h.Words x).Page:=by unfold M.answered;rw[hw];rfl
   rw[ea]at ha ⊢;obtain⟨x',f,l',p0,p1,f0,f1,e,hcs⟩:=bHv hs ha;have ex:x'=x:=l'.at_.symm.trans l.at_;subst ex;have hmf:M.many (M.slots h.Guests) f=if(x'.Pages.getD (M.xExit h.Words x').Page.toNat default).Frame=f then 1 else 0:=by rcases hcs with⟨q,hm⟩|hm;{rw[if_pos q,hm]};{rw[if_neg (aRz l (by omega) hm),hm]}
   refine⟨f,p0,p1,f0,f1,e,bAo l p0 p1 f0 f1 hmf,hcs,bEn l (by omega) f0 (.inr ⟨hc,by rw[hpg,ht],?_⟩)⟩;unfold M.lackS;rw[hpg,hst,hwr];simp
 {rcases hc with hc|⟨hc,_⟩<;>rw[hc]at hk<;>cases hk}
end
structure Rdy (h : DHost) (g : Int) (x : DGuest) (h' : DHost) (x' : DGuest) : Prop where
 small:SmallH h'
 live:Live h' g x'
 views:∀k:Nat,k<3->M.hostView h' (k:Int)=M.hostView h (k:Int)
 same:M.vw h'.Words x'=M.vw h.Words x
 none:M.cnt x'.Pages (M.vw h'.Words x')=0
 dirt:∀p:Nat,(x'.Pages.getD p default).Dirty=(x.Pages.getD p default).Dirty
theorem bKo{x:DGuest}{p q:Nat}{f:Int}(hl:x.Pages.length=8)(hp:p<8):((iS x p f).Pages.getD q default).Dirty=(x.Pages.getD q default).Dirty:=by show((x.Pages.set p _).getD q default).Dirty=_;by_cases e:p=q;{subst e;rw[bN (by rw[lS];omega),List.getElem_set_self]};{simp only[List.getD_eq_getElem?_getD,List.getElem?_set];rw[if_neg e]}
theorem aPl{g:Int}:∀{n:Nat} {h:DHost} {x:DGuest},SmallH h->Live h g x->M.cnt x.Pages (M.vw h.Words x)<=n->M.ready g n h=none\/∃h' x',M.ready g n h=some h'/\Rdy h g x h' x'
 |0,h,x,hs,l,hc=> .inr ⟨h,x,rfl,hs,l,λ_ _=>rfl,rfl,by omega,λ_=>rfl⟩
 |n+1,h,x,hs,l,hc=>by unfold M.ready;rw[yS l];(cases hk:M.lacks (M.xExit h.Words x)with|false=>refine .inr ⟨h,x,rfl,hs,l,λ_ _=>rfl,rfl,?_,λ_=>rfl⟩;rcases aRa l with⟨hw,_⟩|⟨hw,_⟩|⟨_,hz⟩;{unfold M.lacks at hk;rw[hw]at hk;cases hk};{unfold M.lacks at hk;rw[hw]at hk;cases hk};{exact hz}|true=>rw[cTq];(cases ha:(M.answered h g (M.xExit h.Words x)).2 with|false=>exact .inl rfl|true=>obtain⟨f,p0,p1,f0,f1,e,hok,hm,hlt⟩:=aNb hs l hk ha;have l2:=aQu hs l p0 p1 f0 f1 hok;have hs2:=aDf (p:=(M.xExit h.Words x).Page) (f:=f) hs l f0 f1;have hv:∀k:Nat,k<3->M.hostView (M.inFrame h g (M.xExit h.Words x).Page f) (k:Int)=M.hostView h (k:Int):=λk hk=>bHb hs l p0 p1 f0 f1 hok (hm.imp And.left id) hk;have g0:=l.lo;have g1:=l.hi;have hv2:=hv g.toNat (by omega);rw[show((g.toNat:Nat):Int)=g by omega,aJj l,aJj l2]at hv2;have hvw:=congrArg Prod.fst hv2;simp only at hvw;rw[e,cTq];rcases aPl (n:=n) hs2 l2 (by rw[hvw];omega)with hr|⟨h',x',hr,r⟩;{exact .inl hr};{exact .inr ⟨h',x',hr,r.small,r.live,λk hk=>(r.views k hk).trans (hv k hk),r.same.trans hvw,r.none,λp=>(r.dirt p).trans (bKo l.pages (by omega))⟩}))
theorem bDn{ps:List DSlot}{b:DBare}:M.cnt ps b<=2:=by
 have:∀a,M.one a<=1:=λa=>by cases a<;>decide
 unfold M.cnt;have h1:=this (M.reads b&&M.lackS (ps.getD (M.wpc b/8).toNat default) false);have h2:=this (M.comes b&&M.lackS (ps.getD (M.wad b/8).toNat default) (M.isSt b));omega
theorem bCn(b:DBare):M.step b=(bif b.C.Stopped then b
 else bif (M.tick b.C).Waits&&(M.tick b.C).On then M.with_ b (M.trap (M.quiet (M.tick b.C)) b.C.Pc 4 0)
 else bif decide (M.wpc b=-1)then M.with_ b (M.trap (M.tick b.C) b.C.Pc 2 b.C.Pc)
 else M.did (M.with_ b (M.tick b.C)) (M.inst b)):=by
 unfold M.step M.inst M.wpc;rw[aUu,vS,aVe]
theorem bBh(b:DBare)(i:DIns)(h:i.Op=3\/i.Op=4):M.did b i=M.mdo b i:=by unfold M.did;rcases h with h|h<;>rw[h]<;>rfl
theorem bAx(b:DBare)(i:DIns)(h3:i.Op≠3)(h4:i.Op≠4):M.did b i=bif M.kern i.Op then bif b.C.User then M.with_ b (M.trap b.C b.C.Pc 3 0)else M.kdo b i else M.with_ b (M.plain b.C i):=by unfold M.did;rw[dF h3,dF h4];rfl
theorem bAb(b:DBare)(ho:(M.inst b).Op=3\/(M.inst b).Op=4):M.mdo (M.with_ b (M.tick b.C)) (M.inst b)=
 (bif decide (M.wad b=-1)then M.with_ b (M.trap (M.tick b.C) b.C.Pc 2 (M.adr b))
  else bif M.isSt b then⟨M.go (M.tick b.C),b.Mem.set (M.wad b).toNat (M.reg b.C (M.inst b).A),b.In,b.Out⟩
  else M.with_ b (M.go (M.put (M.tick b.C) (M.inst b).A (b.Mem.getD (M.wad b).toNat default)))):=by
 unfold M.mdo M.wad M.adr M.isSt;simp only[M.with_,aUu,vS,aVe,aOs];rcases ho with h|h<;>rw[h]<;>rfl
theorem bPp(b:DBare):(M.step b).Mem=bif M.wrote b then b.Mem.set (M.wad b).toNat (M.reg b.C (M.inst b).A)else b.Mem:=by rw[bCn];unfold M.wrote M.comes M.reads M.busy;(cases b.C.Stopped with|true=>rfl|false=>(cases(M.tick b.C).Waits&&(M.tick b.C).On with|true=>rfl|false=>(cases decide (M.wpc b=-1)with|true=>rfl|false=>simp only[cFq,Bool.false_or,bF,Bool.true_and];by_cases ho:(M.inst b).Op=3\/(M.inst b).Op=4;{rw[bBh _ _ ho,bAb b ho];have eo:(decide ((M.inst b).Op=3)||M.isSt b)=true:=(by unfold M.isSt;simpa using ho);rw[eo,Bool.true_and];(cases decide (M.wad b=-1)with|true=>rfl|false=>cases M.isSt b<;>rfl)};{obtain⟨n3,n4⟩:=not_or.1 ho;rw[bAx _ _ n3 n4];have eo:(decide ((M.inst b).Op=3)||M.isSt b)=false:=(by unfold M.isSt;rw[dF n3,dF n4];rfl);rw[eo];simp only[Bool.false_and,cFq];(cases M.kern (M.inst b).Op with|false=>rfl|true=>(cases(M.with_ b (M.tick b.C)).C.User with|true=>rfl|false=>exact bDs _ _))})))
section
variable {h : DHost} {g : Int} {x : DGuest}
theorem aRf{y:DGuest}:∀{gs:List DGuest} {i:Nat},i<gs.length->y.Pages=(gs.getD i default).Pages->M.slots (gs.set i y)=M.slots gs
 |[],i,h,_=>by simp at h
 |z::gs,0,_,h=>by rw[List.set_cons_zero];simp only[M.slots,List.flatMap_cons];rw[h];rfl
 |z::gs,i+1,hi,h=>by rw[List.set_cons_succ];have:=aRf (y:=y) (gs:=gs) (i:=i) (by simpa using hi) h;simp only[M.slots,List.flatMap_cons]at this ⊢;rw[this]
theorem bRi{b:DBare}(h:BOk b):M.coreOk b.C=true/\M.rowOk b.In=true/\M.rowOk b.Out=true:=by have:=bEo.2 h;unfold M.bareOk at this;simp only[bA]at this;exact⟨this.1.1.1,this.1.2,this.2⟩
theorem aXm(l:Live h g x){b:DBare}(hb:BOk b){ps:List DSlot}(h8:ps.length=8)(hp:ps.all M.slotOk=true):M.guestOk ⟨x.Live,b.C,ps,b.In,b.Out⟩=true:=by obtain⟨h1,h2,h3⟩:=bRi hb;unfold M.guestOk;simp only;rw[l.live,h1,h2,h3,hp,dT h8];rfl
theorem bJb(l:Live h g x){y:DGuest}(hy:M.guestOk y=true):(h.Guests.set g.toNat y).all M.guestOk=true:=by rw[List.all_eq_true];intro z hz;rcases List.mem_or_eq_of_mem_set hz with hz|rfl;{exact List.all_eq_true.1 l.ok.all z hz};{exact hy}
theorem tO(l:Live h g x){y:DGuest}{k:Nat}(hk:k<3):(h.Guests.set g.toNat y).getD k default=if(k:Int)=g then y else h.Guests.getD k default:=by have h3:=l.ok.three;have g0:=l.lo;have g1:=l.hi;rw[List.getD_eq_getElem?_getD,List.getElem?_set];by_cases e:(k:Int)=g;{rw[if_pos e,if_pos (by omega),if_pos (by omega)];rfl};{rw[if_neg e,if_neg (by omega),<-List.getD_eq_getElem?_getD]}
theorem bLt(l:Live h g x){b:DBare}(hb:BOk b):HOk (M.withM h g x b):=by have h3:=l.ok.three;have g0:=l.lo;have g1:=l.hi;refine⟨l.ok.len,l.ok.words,by show(h.Guests.set _ _).length=3;rw[lS];exact h3,bJb l (aXm l hb l.pages l.slots),?_⟩;show M.alone (M.slots (h.Guests.set _ _))=true;rw[aRf (by omega) (by rw[l.at_])];exact l.ok.alone
theorem aUy(hs:SmallH h){ws:List Int}{y:DGuest}(hw:ws.length<=1048576)(hy:SmallG y):SmallH ⟨ws,h.Guests.set g.toNat y⟩:=by refine⟨hw,by show(h.Guests.set _ _).length<=_;rw[lS];exact hs.guests,λz hz=>?_⟩;rcases List.mem_or_eq_of_mem_set hz with hz|rfl;{exact hs.all z hz};{exact hy}
theorem aNe{b:DBare}(hb:BOk b){v:Bool}{ps:List DSlot}(h8:ps.length=8):SmallG ⟨v,b.C,ps,b.In,b.Out⟩:=⟨⟨by have:=hb.regs;show b.C.Regs.length<=_;omega⟩,by show ps.length<=_;omega,by have:=hb.inn;show b.In.length<=_;omega,by have:=hb.out;show b.Out.length<=_;omega⟩
theorem bCl(hs:SmallH h)(l:Live h g x){b:DBare}(hb:BOk b):SmallH (M.withM h g x b):=aUy hs hs.words (aNe hb l.pages)
theorem aWz(l:Live h g x){h':DHost}(hok:HOk h'){y:DGuest}(hy:y.Live=true)(he:h'.Guests=h.Guests.set g.toNat y):M.hostView h' g=(M.vw h'.Words y,true):=by have g0:=l.lo;have g1:=l.hi;have e:h'.Guests.getD g.toNat default=y:=(by rw[he,tO l (by omega),if_pos (by omega)]);unfold M.hostView;rw[pW.2 ⟨hok,g0,g1,by rw[e];exact hy⟩,cTq,e];rfl
theorem aRg (l:Live h g x) {h':DHost} (hok:HOk h') {y:DGuest} (he:h'.Guests=h.Guests.set g.toNat y) {k:Nat} (hk:k<3) (hn:(k:Int)≠g)
 (hm:(h.Guests.getD k default).Live=true->M.mem h'.Words (h.Guests.getD k default).Pages=M.mem h.Words (h.Guests.getD k default).Pages):M.hostView h' (k:Int)=M.hostView h (k:Int):=by
 have e:h'.Guests.getD (Int.toNat (k:Int)) default=h.Guests.getD (Int.toNat (k:Int)) default:=(by rw[iT,he,tO l hk,if_neg hn]);unfold M.hostView M.there;rw[e,dZ.2 hok,dZ.2 l.ok,Bool.true_and];(cases hl:(h.Guests.getD (Int.toNat (k:Int)) default).Live with|false=>rw[Bool.and_false];rfl|true=>rw[iT]at hl ⊢;rw[hm hl])
theorem aQg(hs:SmallH h)(l:Live h g x){p:Nat}(hp:p<8)(hw:(x.Pages.getD p default).Write=true)(hf:(x.Pages.getD p default).Frame≠-1){k q:Nat}(hk:k<3)(hq:q<(h.Guests.getD k default).Pages.length)(hne:(k:Int)≠g\/q≠p):((h.Guests.getD k default).Pages.getD q default).Frame≠(x.Pages.getD p default).Frame:=by intro he;have h3:=l.ok.three;have g0:=l.lo;have g1:=l.hi;have hpl:=l.pages;have hsl:=cS l hp;have ha:=List.all_eq_true.1 l.ok.alone _ (aUj l hp);rw[hw,bT,Bool.false_or,decide_eq_true_eq]at ha;have hm:=aZl l hp (f:=-7) (q:=(x.Pages.getD p default).Frame);rw[if_pos rfl,if_neg (by omega)]at hm;have hz:M.many (M.slots (h.Guests.set g.toNat (iS x p (-7)))) (x.Pages.getD p default).Frame=0:=(by omega);have hpos:0<M.many (M.slots (h.Guests.set g.toNat (iS x p (-7)))) (x.Pages.getD p default).Frame:=(by unfold M.many;refine List.countP_pos_iff.2 ⟨(h.Guests.getD k default).Pages.getD q default,?_,by simpa using he⟩;by_cases e:(k:Int)=g;{have ek:h.Guests.getD k default=x:=(by rw[<-l.at_];congr 1;omega);rw[ek]at hq ⊢;refine List.mem_flatMap.2 ⟨iS x p (-7),?_,?_⟩;{have:=cG (xs:=h.Guests.set g.toNat (iS x p (-7))) (k:=k) (by rw[lS];omega);rwa[tO l hk,if_pos e]at this};{have hqp:q≠p:=hne.resolve_left (λn=>n e);have:(iS x p (-7)).Pages.getD q default=x.Pages.getD q default:=(by show(x.Pages.set p _).getD q default=_;simp only[List.getD_eq_getElem?_getD,List.getElem?_set];rw[if_neg (by omega)]);rw[<-this];exact cG (by show q<(x.Pages.set p _).length;rw[lS];exact hq)}};{refine List.mem_flatMap.2 ⟨h.Guests.getD k default,?_,cG hq⟩;have:=cG (xs:=h.Guests.set g.toNat (iS x p (-7))) (k:=k) (by rw[lS];omega);rwa[tO l hk,if_neg e]at this});omega
theorem aPn{a:Bool}(h:M.one a=0):a=false:=by cases a;rfl;cases h
structure Wr (h : DHost) (x : DGuest) (t : Int) : Prop where
 lo:0<=t
 hi:t<64
 frame:(x.Pages.getD (t/8).toNat default).Frame≠-1
 write:(x.Pages.getD (t/8).toNat default).Write=true
theorem bPc(l:Live h g x)(hc:M.cnt x.Pages (M.vw h.Words x)=0)(hw:M.wrote (M.vw h.Words x)=true):Wr h x (M.wad (M.vw h.Words x))/\0<=(M.inst (M.vw h.Words x)).A/\(M.inst (M.vw h.Words x)).A<4:=by have hb:=pG l;unfold M.wrote at hw;rw[bA]at hw;obtain⟨h1,h2⟩:=hw;have c2:=aPn (Nat.eq_zero_of_add_eq_zero_left hc);rw[h1,h2,Bool.true_and]at c2;unfold M.lackS at c2;rw[Bool.true_and,Bool.or_eq_false_iff,decide_eq_false_iff_not,Bool.not_eq_false']at c2;unfold M.comes at h1;simp only[bA,Bool.not_eq_true',decide_eq_false_iff_not]at h1;have hwt:=aEb _ _ _ _ _ h1.2;have hr:=h1.1.1;unfold M.reads at hr;simp only[bA,Bool.not_eq_true',decide_eq_false_iff_not]at hr;have hwp:=aEb _ _ _ _ _ hr.2;have hm:=aBh hb hwp.1 hwp.2;have hi:=aQz hm.1 hm.2;simp only[M.insOk,bA,M.inR_iff]at hi;refine⟨⟨hwt.1,hwt.2,c2.1,c2.2⟩,hi.1.2.1,Int.lt_of_le_of_lt hi.1.2.2 (by decide)⟩
theorem aEx{p q:Nat}(hl:x.Pages.length=8)(hp:p<8):(x.Pages.set p (M.dirty x p)).getD q default=if q=p then M.dirty x p else x.Pages.getD q default:=by simp only[List.getD_eq_getElem?_getD,List.getElem?_set];by_cases e:q=p;{subst e;rw[if_pos rfl,if_pos rfl,if_pos (by omega)];rfl};{rw[if_neg (by omega),if_neg e]}
theorem bBs{p q:Nat}(hl:x.Pages.length=8)(hp:p<8):((x.Pages.set p (M.dirty x p)).getD q default).Frame=(x.Pages.getD q default).Frame:=by rw[aEx hl hp];split;{rename_i e;rw[e];rfl};{rfl}
theorem bOm(l:Live h g x){p:Nat}(hp:p<8)(hf:(x.Pages.getD p default).Frame≠-1):(x.Pages.set p (M.dirty x p)).all M.slotOk=true:=by rw[List.all_eq_true];intro s hs;rcases List.mem_or_eq_of_mem_set hs with hs|rfl;{exact List.all_eq_true.1 l.slots s hs};{have:=cS l hp;unfold M.slotOk M.dirty;simp only;rw[dF hf,cFq,dT (by omega),dT this.2];rfl}
theorem bLc(hs:SmallH h)(l:Live h g x){t:Int}(hw:Wr h x t){w:Int}{ps:List DSlot}(hf:∀q,(ps.getD q default).Frame=(x.Pages.getD q default).Frame):
 M.mem (h.Words.set ((x.Pages.getD (t/8).toNat default).Frame*8+t%8).toNat w) ps=(M.mem h.Words x.Pages).set t.toNat w:=by
 have g0:=l.lo;have g1:=l.hi;have hpl:=l.pages;have hlw:=l.ok.len;have t0:=hw.lo;have t1:=hw.hi;have hfr:=hw.frame;have hrt:=cS l (p:=(t/8).toNat) (by omega);refine pX (n:=64) fZ (by rw[lS,fZ]) λa ha=>?_;rw[kH ha,zI (by rw[fZ];omega),kH ha];have hr:=cS l (p:=a/8) (by omega);unfold M.word;rw[hf];by_cases e:t.toNat=a;{rw[if_pos e,show a/8=(t/8).toNat by omega,if_neg (by omega),zI (by omega),if_pos (by omega)]}
 · rw[if_neg e]
   split;{rfl}
   · rw[zI (by omega),if_neg]
     intro e2;have hne:a/8≠(t/8).toNat:=λe3=>by rw[e3]at e2;omega
     have:=aQg hs l (p:=(t/8).toNat) (by omega) hw.write hfr (k:=g.toNat) (q:=a/8) (by omega) (by rw[l.at_];omega) (.inr hne);rw[l.at_]at this;omega
theorem bKk(hs:SmallH h)(l:Live h g x){t:Int}(hw:Wr h x t){w:Int}{k:Nat}(hk:k<3)(hn:(k:Int)≠g)(hl:(h.Guests.getD k default).Live=true):
 M.mem (h.Words.set ((x.Pages.getD (t/8).toNat default).Frame*8+t%8).toNat w) (h.Guests.getD k default).Pages=M.mem h.Words (h.Guests.getD k default).Pages:=by
 have g0:=l.lo;have g1:=l.hi;have hlw:=l.ok.len;have t0:=hw.lo;have t1:=hw.hi;have hfr:=hw.frame;have hrt:=cS l (p:=(t/8).toNat) (by omega);have lk:=fL (g:=(k:Int)) hs (pW.2 ⟨l.ok,by omega,by omega,by rw[iT];exact hl⟩);rw[iT]at lk;have hpk:=lk.pages;refine pX (n:=64) fZ fZ λa ha=>?_;rw[kH ha,kH ha];have hr:=cS lk (p:=a/8) (by omega);unfold M.word;split;{rfl};{rw[zI (by omega),if_neg];intro e2;exact aQg hs l (p:=(t/8).toNat) (by omega) hw.write hfr (k:=k) (q:=a/8) hk (by omega) (.inl hn) (by omega)}
structure Ran (h : DHost) (g : Int) (x : DGuest) (y : DGuest) : Prop where
 ok:HOk (M.ran h g x)
 small:SmallH (M.ran h g x)
 at_:(M.ran h g x).Guests.getD g.toNat default=y
 view:M.hostView (M.ran h g x) g=(M.step (M.vw h.Words x),true)
 others:∀k:Nat,k<3->(k:Int)≠g->M.hostView (M.ran h g x) (k:Int)=M.hostView h (k:Int)
 pages:y.Pages.length=8
 dirt:∀q:Nat,(x.Pages.getD q default).Dirty=true->(y.Pages.getD q default).Dirty=true
 told:∀a:Nat,a<64->(M.mem h.Words x.Pages).getD a default≠(M.step (M.vw h.Words x)).Mem.getD a default->(y.Pages.getD (a/8) default).Dirty=true
theorem bVc(hs:SmallH h)(l:Live h g x)(hc:M.cnt x.Pages (M.vw h.Words x)=0):∃y,Ran h g x y:=by
 have h3:=l.ok.three;have g0:=l.lo;have g1:=l.hi;have hpl:=l.pages;have hlw:=l.ok.len;have hb:=pG l;have hst:=aSk hb;have hsm:=bPp (M.vw h.Words x);cases hw:M.wrote (M.vw h.Words x)with
 |false=>rw[hw,cFq]at hsm;have er:M.ran h g x=M.withM h g x (M.step (M.vw h.Words x)):=(by unfold M.ran;rw[hw];rfl);have hok:=bLt l hst;have hvs:=aWz l hok (y:=⟨x.Live,(M.step (M.vw h.Words x)).C,x.Pages,(M.step (M.vw h.Words x)).In,(M.step (M.vw h.Words x)).Out⟩) l.live rfl;refine⟨⟨x.Live,(M.step (M.vw h.Words x)).C,x.Pages,(M.step (M.vw h.Words x)).In,(M.step (M.vw h.Words x)).Out⟩,by rw[er];exact hok,by rw[er];exact bCl hs l hst,?_,?_,λk hk hn=>?_,hpl,λq hq=>hq,λa ha hne=>?_⟩;{rw[er];have:=tO l (y:=⟨x.Live,(M.step (M.vw h.Words x)).C,x.Pages,(M.step (M.vw h.Words x)).In,(M.step (M.vw h.Words x)).Out⟩) (k:=g.toNat) (by omega);rw[if_pos (by omega)]at this;exact this};{rw[er,hvs];have:M.mem h.Words x.Pages=(M.step (M.vw h.Words x)).Mem:=hsm.symm;show((⟨_,M.mem h.Words x.Pages,_,_⟩:DBare),true)=_;rw[this]};{rw[er];exact aRg l hok rfl hk hn λ_=>rfl};{rw[hsm]at hne;exact absurd rfl hne}
 |true=>
  rw[hw,cTq]at hsm;obtain⟨hwr,a0,a1⟩:=bPc l hc hw;have t0:=hwr.lo;have t1:=hwr.hi;have hg:=hb.reg a0 a1;have hrt:=cS l (p:=(M.wad (M.vw h.Words x)/8).toNat) (by omega);have er:M.ran h g x=⟨h.Words.set ((x.Pages.getD (M.wad (M.vw h.Words x)/8).toNat default).Frame*8+M.wad (M.vw h.Words x)%8).toNat (M.reg x.C (M.inst (M.vw h.Words x)).A),h.Guests.set g.toNat ⟨x.Live,(M.step (M.vw h.Words x)).C,x.Pages.set (M.wad (M.vw h.Words x)/8).toNat (M.dirty x (M.wad (M.vw h.Words x)/8).toNat),(M.step (M.vw h.Words x)).In,(M.step (M.vw h.Words x)).Out⟩⟩:=(by unfold M.ran;rw[hw];rfl);generalize hy:(⟨x.Live,(M.step (M.vw h.Words x)).C,x.Pages.set (M.wad (M.vw h.Words x)/8).toNat (M.dirty x (M.wad (M.vw h.Words x)/8).toNat),(M.step (M.vw h.Words x)).In,(M.step (M.vw h.Words x)).Out⟩:DGuest)=y at er;have yl:y.Live=true:=(by rw[<-hy];exact l.live);have yp:y.Pages=x.Pages.set (M.wad (M.vw h.Words x)/8).toNat (M.dirty x (M.wad (M.vw h.Words x)/8).toNat):=(by rw[<-hy]);have yp8:y.Pages.length=8:=(by rw[yp,lS];exact hpl);have yg:M.guestOk y=true:=(by rw[<-hy];exact aXm l hst (by rw[lS];exact hpl) (bOm l (by omega) hwr.frame));have yf:∀q,(y.Pages.getD q default).Frame=(x.Pages.getD q default).Frame:=λq=>by rw[yp];exact bBs hpl (by omega)
  have hmany:∀f,M.many (M.slots (h.Guests.set g.toNat y)) f=M.many (M.slots h.Guests) f:=λf=>by have h1:=aIn (x:=y) (f:=f) (gs:=h.Guests) (i:=g.toNat) (by omega);have h2:=aKz (s':=M.dirty x (M.wad (M.vw h.Words x)/8).toNat) (f:=f) (ps:=x.Pages) (j:=(M.wad (M.vw h.Words x)/8).toNat) (by omega);rw[l.at_,yp]at h1;rw[show(M.dirty x (M.wad (M.vw h.Words x)/8).toNat).Frame=(x.Pages.getD (M.wad (M.vw h.Words x)/8).toNat default).Frame from rfl]at h2;omega
  have hok:HOk (M.ran h g x):=(by rw[er];refine⟨by show(h.Words.set _ _).length=160;rw[lS];exact hlw,aDg l.ok.words hg.1 hg.2,by show(h.Guests.set _ _).length=3;rw[lS];exact h3,bJb l yg,?_⟩;have ha:=l.ok.alone;simp only[M.alone,List.all_eq_true,Bool.or_eq_true,Bool.not_eq_true',decide_eq_true_eq]at ha ⊢;intro s hsm2;rw[hmany];rcases aVs hsm2 with h1|h1;{exact ha s h1};{rw[yp]at h1;rcases List.mem_or_eq_of_mem_set h1 with h1|rfl;{refine ha s (List.mem_flatMap.2 ⟨x,?_,h1⟩);rw[<-l.at_];exact cG (by omega)};{have hd:=ha _ (aUj l (p:=(M.wad (M.vw h.Words x)/8).toNat) (by omega));exact hd}});have hat:(M.ran h g x).Guests.getD g.toNat default=y:=(by rw[er];have:=tO l (y:=y) (k:=g.toNat) (by omega);rw[if_pos (by omega)]at this;exact this);refine⟨y,hok,?_,hat,?_,λk hk hn=>?_,yp8,λq hq=>?_,λa ha hne=>?_⟩;{rw[er];refine aUy hs (by rw[lS];exact hs.words) ?_;rw[<-hy];exact aNe hst (by rw[lS];exact hpl)};{rw[aWz l hok yl (by rw[er])];have hm:=bLc hs l hwr (w:=M.reg x.C (M.inst (M.vw h.Words x)).A) yf;have e1:(M.ran h g x).Words=h.Words.set ((x.Pages.getD (M.wad (M.vw h.Words x)/8).toNat default).Frame*8+M.wad (M.vw h.Words x)%8).toNat (M.reg x.C (M.inst (M.vw h.Words x)).A):=(by rw[er]);show((⟨y.C,M.mem (M.ran h g x).Words y.Pages,y.In,y.Out⟩:DBare),true)=_;have hsm2:(M.mem h.Words x.Pages).set (M.wad (M.vw h.Words x)).toNat (M.reg x.C (M.inst (M.vw h.Words x)).A)=(M.step (M.vw h.Words x)).Mem:=hsm.symm;rw[e1,hm,hsm2,<-hy]};{exact aRg l hok (y:=y) (by rw[er]) hk hn λhlv=>by rw[er];exact bKk hs l hwr hk hn hlv};{rw[yp,aEx hpl (by omega)];split;{rfl};{exact hq}};{rw[hsm]at hne;have e:a=(M.wad (M.vw h.Words x)).toNat:=(by refine Classical.byContradiction λe=>hne ?_;show _=((M.mem h.Words x.Pages).set _ _).getD a default;rw[zI (by rw[fZ];omega),if_neg (by omega)]);rw[yp,aEx hpl (by omega),if_pos (by omega)];rfl}
end
section
variable {h : DHost} {g : Int} {x : DGuest}
theorem aAa(l:Live h g x){a:Int}(a0:0<=a)(a1:a<=63):gT h g a=some (M.shadeAt h.Words x a):=by unfold gT M.shadeAt;rw[Int.tdiv_eq_ediv_of_nonneg a0,aF (by omega) (by omega),show a/8=(((a/8).toNat:Nat):Int) by omega,bJv l (by omega),iT];rfl
theorem sX(l:Live h g x){a:Int}{w:Bool}(a0:0<=a)(a1:a<=63):dS h g a w=some (M.placeAt h.Words x a w):=by have:=l.ok.three;have:=l.lo;have:=l.hi;have hf:-1<=(M.shadeAt h.Words x a).Frame/\(M.shadeAt h.Words x a).Frame<20:=bBu l (p:=(a/8).toNat) (by omega);unfold dS;rw[aAa l a0 a1,oB,aC ⟨l.lo,by omega⟩,l.at_,aZv a0 a1 hf.1 hf.2];rfl
theorem aHo(l:Live h g x){a why:Int}(a0:0<=a)(a1:a<=63):iW h g a why=some (M.aExit (M.shadeAt h.Words x a) why):=by unfold iW M.aExit;rw[aAa l a0 a1,oB];cases decide (why=2)<;>cases decide (why=3)<;>rfl
theorem aCh{c:DCore}{n:Int}:0<=M.reg c n%64/\M.reg c n%64<=63:=by omega
theorem bJp(l:Live h g x){i:DIns}(hi:M.insOk i=true):qY h g i=some (M.iExit h.Words x i):=by have:=l.ok.three;have:=l.lo;have:=l.hi;have hb:=pG l;have hi2:=hi;obtain⟨op,a,n⟩:=i;simp only[M.insOk,bA,M.inR_iff]at hi2;have had:cX x.C ⟨op,a,n⟩=some (M.reg x.C (n%4)%64):=aNj (b:=M.vw h.Words x) hb.k hi2.2.1;have rest:sO h g ⟨op,a,n⟩ ()=some (bif decide (op=3)||decide (op=4)then M.aExit (M.shadeAt h.Words x (M.reg x.C (n%4)%64)) (M.placeAt h.Words x (M.reg x.C (n%4)%64) (decide (op=4))).2 else M.e0):=(by have more:sL h g ⟨op,a,n⟩ ()=some (M.aExit (M.shadeAt h.Words x (M.reg x.C (n%4)%64)) (M.placeAt h.Words x (M.reg x.C (n%4)%64) (decide (op=4))).2):=(by unfold sL;simp only[l.at_];show Option.bind (cX x.C ⟨op,a,n⟩) _=_;rw[had,oB,sX l aCh.1 aCh.2,oB,aHo l aCh.1 aCh.2];rfl);unfold sO;by_cases h3:op=3;{simp only[dT h3,bT,cFq,oB,JO.run,Bool.true_or,cTq];exact more};{by_cases h4:op=4;{simp only[dF h3,dT h4,bT,bF,cTq,cFq,oB,JO.run,Bool.or_true];rw[dT h4]at more;exact more};{simp only[dF h3,dF h4,bF,cTq,oB,JO.run,Bool.or_false,cFq];rfl}});unfold qY M.iExit;rw[aC ⟨l.lo,by omega⟩,aMt hi,oB,l.at_];(cases M.kern op with|false=>simp only[cFq,oB,JO.run,Bool.false_and];exact rest|true=>(cases x.C.User with|false=>rfl|true=>simp only[bT,cTq,cFq,oB,JO.run,Bool.and_false];exact rest))
theorem bIj(l:Live h g x){a:Int}{w:Bool}(a0:0<=a)(a1:a<=63)(h2:(M.placeAt h.Words x a w).2=0):0<=(M.placeAt h.Words x a w).1/\(M.placeAt h.Words x a w).1<160:=by rcases uM l (w:=w) a0 a1 rfl with⟨_,hp⟩|⟨t0,t1,_,hp⟩;{rw[hp]at h2;cases h2};{have hr:=cS l (p:=(M.walk (M.mem h.Words x.Pages) x.C.Root a x.C.User w/8).toNat) (by omega);rw[hp]at h2 ⊢;generalize(x.Pages.getD (M.walk (M.mem h.Words x.Pages) x.C.Root a x.C.User w/8).toNat default)=s at hr h2 ⊢;by_cases e:s.Frame=-1;{rw[dT e]at h2;cases h2};{rw[dF e,cFq]at h2 ⊢;(cases hw:w&&!s.Write with|true=>rw[hw]at h2;cases h2|false=>rw[cFq];simp only;omega)}}
theorem bQz(l:Live h g x):M.coreOk x.C=true/\(0<=x.C.Pc/\x.C.Pc<=63)/\(0<=x.C.Timer/\x.C.Timer<=4095):=⟨l.core,(pG l).pc,(pG l).timer⟩
theorem aYv(l:Live h g x):oP h g=some (M.xExit h.Words x):=by have:=l.ok.three;have:=l.lo;have:=l.hi;have hlw:=l.ok.len;obtain⟨_,hpc,htm⟩:=bQz l;unfold oP M.xExit M.busy;rw[aC ⟨l.lo,by omega⟩,l.at_];show cond x.C.Stopped _ (Option.bind (gW x.C) _)=_;(cases x.C.Stopped with|true=>rfl|false=>rw[cFq];rw[aYj htm.1 htm.2,oB,aCw,oB];(cases(M.tick x.C).Waits&&(M.tick x.C).On with|true=>rfl|false=>simp only[Bool.or_false,cFq];rw[sX l hpc.1 hpc.2,oB];by_cases h2:(M.placeAt h.Words x x.C.Pc false).2=0;{have hpl:=bIj l hpc.1 hpc.2 h2;have hw:=mP l.ok.words (i:=(M.placeAt h.Words x x.C.Pc false).1.toNat) (by omega);rw[dT h2,bT,cFq,cFq,aC ⟨hpl.1,by omega⟩,aVl hw.1 hw.2,oB,bJp l (aQz hw.1 hw.2)];rfl};{rw[dF h2,bF,cTq,cTq,aHo l hpc.1 hpc.2];rfl}))
end
theorem aUx{xs:List Int}{a w:Int}(h:xs.length<=1048576)(h0:0<=a)(h1:a<(xs.length:Int)):kN xs a w=some (xs.set a.toNat w):=by unfold kN;rw[iO h,oB,aC ⟨h0,h1⟩]
theorem aMp{pc:Int}(h0:0<=pc)(h1:pc<=63):kT pc=some ((pc+1)%64):=by unfold kT;rw[aF (by omega) (by omega),iM (by omega)]
theorem aNp{b:DBare}(h0:0<=b.C.Pc)(h1:b.C.Pc<=63):fN b=some (M.with_ b (M.go b.C)):=by unfold fN;rw[aMp h0 h1];rfl
section
variable {b : DBare} {op a n : Int}
theorem aPr(hb:KOk b)(rs ro v ti on m i ou):fN ⟨⟨rs,b.C.Pc,ro,v,b.C.Saved,b.C.SavedUser,b.C.Cause,b.C.Bad,ti,b.C.Waits,b.C.User,on,b.C.Stopped⟩,m,i,ou⟩=some ⟨⟨rs,(b.C.Pc+1)%64,ro,v,b.C.Saved,b.C.SavedUser,b.C.Cause,b.C.Bad,ti,b.C.Waits,b.C.User,on,b.C.Stopped⟩,m,i,ou⟩:=aNp (b:=⟨⟨rs,b.C.Pc,ro,v,b.C.Saved,b.C.SavedUser,b.C.Cause,b.C.Bad,ti,b.C.Waits,b.C.User,on,b.C.Stopped⟩,m,i,ou⟩) hb.pc.1 hb.pc.2
theorem bLo{k:Int}(h0:0<=k)(h1:k<4):qW b k=some (M.cin b k):=by unfold qW M.cin;by_cases e1:k=1;{rw[dT e1];rfl};by_cases e2:k=2;{rw[dF e1,dT e2];rfl};by_cases e3:k=3;{rw[dF e1,dF e2,dT e3];rfl};rw[dF e1,dF e2,dF e3];simp only[cFq];(cases hi:b.In with|nil=>rfl|cons x xs=>rw[dF (by simp only[List.length_cons];omega),cFq,aC ⟨by omega,by simp only[List.length_cons];omega⟩];rfl)
theorem bSm{xs:List Int}:List.take (Int.toNat ((List.length xs:Nat):Int)-Int.toNat (1:Int)) (List.drop (Int.toNat (1:Int)) xs)=xs.drop 1:=by rw[show Int.toNat (1:Int)=1 from rfl];exact List.take_of_length_le (by simp)
theorem bOv(hb:KOk b)(a0:0<=a)(a1:a<=3)(n0:0<=n):tE b ⟨op,a,n⟩=some ⟨M.put b.C a (M.cin b (n%4)),b.Mem,M.rest b.In (n%4),b.Out⟩:=by unfold tE;simp only[bHx n0];rw[bLo (by omega) (by omega),oB,aUx (by have:=hb.regs;omega) a0 (hb.gA a0 a1).2,oB,bSm];simp only[M.rest];by_cases h:n%4=0;{rw[dT h];(cases hi:b.In with|nil=>rfl|cons x xs=>rw[dT (by simp only[List.length_cons];omega),cTq,cTq,aC ⟨by omega,by simp only[List.length_cons];omega,by omega⟩];rfl)};{rw[dF h];rfl}
theorem bKy{xs:List Int}{w:Int}(h:xs.length<=30):rA xs w=some (bif decide (xs.length<30)then xs++[w]else xs):=by unfold rA;by_cases e:xs.length<30;{rw[dF (show¬(30:Int)<=((xs.length:Nat):Int) by omega),dT e,cFq,iO (by omega),oB,aC ⟨by simp only[List.length_cons,List.length_nil];omega,by simp only[List.length_cons,List.length_nil];omega⟩];rfl};{rw[dT (show(30:Int)<=((xs.length:Nat):Int) by omega),dF e];rfl}
theorem bFq{w:Int}(h:0<=w):pL w=some (M.root w):=by unfold pL;rw[iM h,aEy];simp only[oB,M.root,M.inR];by_cases e:w%16<8;{rw[dT e,dT (show 0<=w%16 by omega),dT (show w%16<=7 by omega)];rfl};{rw[dF e,dF (show¬w%16<=7 by omega),Bool.and_false];rfl}
theorem bBv(hb:KOk b)(o0:0<=op)(o1:op<=15)(a0:0<=a)(a1:a<=3)(n0:0<=n)(hk:M.kern op=true):nR b ⟨op,a,n⟩=some (M.kdo b ⟨op,a,n⟩):=by
 have g1:=hb.reg a0 (by omega);unfold nR;rw[aC (hb.gA a0 a1)];simp only[show b.C.Regs.getD a.toNat default=M.reg b.C a from rfl];rcases aOl o0 o1 with e|e|e|e|e|e|e|e|e|e|e|e|e|e|e|e<;>subst e<;>first|(exact absurd hk (by decide))|simp only[Int.reduceEq,decide_true,decide_false,cTq,cFq,oB,JO.run,hT,M.kdo]
 {rfl};{rw[bFq g1.1];simp only[oB,JO.run,hT];rw[aPr hb];rfl};{simp only[iM g1.1];rw[aPr hb];rfl};{rw[aPr hb];rfl};{rfl};{simp only[iM n0];rw[aPr hb];rfl};{rw[bKy hb.out];simp only[oB,JO.run,hT];rw[aPr hb];rfl};{rw[bOv hb a0 a1 n0];simp only[oB,JO.run,hT,M.put];rw[aPr hb];rfl}
end
namespace M
end M
theorem bTe{b b':DBare}(h1:b'.C=b.C)(h2:b'.In=b.In)(h3:b'.Out=b.Out)(i:DIns):(M.kdo b' i).C=(M.kdo b i).C/\(M.kdo b' i).In=(M.kdo b i).In/\(M.kdo b' i).Out=(M.kdo b i).Out:=by obtain⟨c,m,n,o⟩:=b';simp only at h1 h2 h3;subst h1 h2 h3;unfold M.kdo;cases decide (i.Op=0)<;>cases decide (i.Op=8)<;>cases decide (i.Op=9)<;>cases decide (i.Op=10)<;>cases decide (i.Op=11)<;>cases decide (i.Op=12)<;>cases decide (i.Op=13)<;>exact⟨rfl,rfl,rfl⟩
theorem bPk{h:DHost}{g:Int}{x:DGuest}{b b':DBare}(h1:b'.C=b.C)(h2:b'.In=b.In)(h3:b'.Out=b.Out):M.withM h g x b'=M.withM h g x b:=by unfold M.withM;rw[h1,h2,h3]
theorem KOk.small{b:DBare}(h:KOk b)(hm:b.Mem.length<=1048576):SmallB b:=⟨⟨by have:=h.regs;omega⟩,hm,by have:=h.inn;omega,by have:=h.out;omega⟩
section
variable {h : DHost} {g : Int} {x : DGuest}
theorem bBz(l:Live h g x):nN h g=some (M.mach x):=by have:=l.ok.three;have:=l.lo;have:=l.hi;unfold nN;rw[aC ⟨l.lo,by omega⟩,l.at_];rfl
theorem aHr(hs:SmallH h)(l:Live h g x){b:DBare}(hb:SmallB b):cM h g b=some (M.withM h g x b):=by have:=l.ok.three;have:=l.lo;have:=l.hi;unfold cM;rw[lL hs l.ok,oB,aHu hb,oB,aC ⟨l.lo,by omega⟩,aC ⟨l.lo,by omega⟩,aC ⟨l.lo,by omega⟩,l.at_];have hlt:g.toNat<h.Guests.length:=(by omega);simp only[aI hlt,List.set_set];rfl
end
section
variable {b : DBare} {op a n : Int}
theorem bAr(hb:KOk b)(a0:0<=a)(a1:a<=3)(ho:op=5\/op=6):tD b ⟨op,a,n⟩=some (M.with_ b (M.plain b.C ⟨op,a,n⟩)):=by unfold tD;rcases ho with rfl|rfl;{rfl};{simp only[decide_true,cTq];rw[aC (hb.gA a0 a1),show b.C.Regs.getD a.toNat default=M.reg b.C a from rfl];by_cases h:M.reg b.C a=0;{rw[dT h,aNp hb.pc.1 hb.pc.2];simp only[M.plain,dT h];rfl};{simp only[M.plain,dF h];rfl}}
theorem aJc(hb:KOk b)(a0:0<=a)(a1:a<=3)(n0:0<=n):rY b.C.Regs ⟨op,a,n⟩=some (bif decide (op=2)then(M.reg b.C a+M.reg b.C (n%4))%4096 else bif decide (op=15)then(M.reg b.C a-M.reg b.C (n%4)+4096)%4096 else n):=by unfold rY;have g1:=hb.reg a0 (by omega);have g2:=hb.reg (k:=n%4) (by omega) (by omega);simp only[bHx n0];rw[aC (hb.gA (by omega) (by omega)),aC (hb.gA a0 a1),aC (hb.gA a0 a1),show b.C.Regs.getD a.toNat default=M.reg b.C a from rfl,show b.C.Regs.getD (n%4).toNat default=M.reg b.C (n%4)from rfl,aF (z:=M.reg b.C a+M.reg b.C (n%4)) (by omega) (by omega),aF (z:=M.reg b.C a-M.reg b.C (n%4)) (by omega) (by omega),aF (z:=M.reg b.C a-M.reg b.C (n%4)+4096) (by omega) (by omega),iM (by omega),iM (by omega)];cases decide (op=2)<;>cases decide (op=15)<;>rfl
theorem rS(hb:KOk b)(a0:0<=a)(a1:a<=3)(w:Int):fG b a w=some (M.with_ b (M.go (M.put b.C a w))):=by unfold fG;rw[aUx (by have:=hb.regs;omega) a0 (hb.gA a0 a1).2];simp only[oB];rw[aPr hb];rfl
theorem bKx(hb:KOk b)(o0:0<=op)(o1:op<=15)(a0:0<=a)(a1:a<=3)(n0:0<=n)(hk:M.kern op=false)(h3:op≠3)(h4:op≠4):rR b ⟨op,a,n⟩=some (M.with_ b (M.plain b.C ⟨op,a,n⟩)):=by
 unfold rR;rcases aOl o0 o1 with e|e|e|e|e|e|e|e|e|e|e|e|e|e|e|e<;>subst e<;>first|(exact absurd hk (by decide))|(exact absurd rfl h3)|(exact absurd rfl h4)|simp only[Int.reduceEq,decide_true,decide_false,cTq,cFq,oB,JO.run,yD]
 {rw[aJc hb a0 a1 n0,oB,rS hb a0 a1];rfl};{rw[aJc hb a0 a1 n0,oB,rS hb a0 a1];rfl};{rw[bAr hb a0 a1 (.inl rfl)];rfl};{rw[bAr hb a0 a1 (.inr rfl)];rfl};{rw[aMp hb.pc.1 hb.pc.2];rfl};{rw[aJc hb a0 a1 n0,oB,rS hb a0 a1];rfl}
theorem bCe(hb:KOk b){i:DIns}(hi:M.insOk i=true)(h3:i.Op≠3)(h4:i.Op≠4):kQ b i=some (M.did b i):=by unfold kQ;rw[aMt hi,oB];unfold M.did;rw[dF h3,dF h4];obtain⟨op,a,n⟩:=i;simp only[M.insOk,bA,M.inR_iff]at hi;obtain⟨⟨⟨o0,o1⟩,a0,a1⟩,n0,n1⟩:=hi;(cases hk:M.kern op with|false=>simp only[bF,cTq];rw[bKx hb o0 o1 a0 a1 n0 hk h3 h4];rfl|true=>simp only[bT,cFq,cTq];(cases b.C.User with|true=>rfl|false=>simp only[cFq];rw[bBv hb o0 o1 a0 a1 n0 hk];rfl))
end
section
variable {b : DBare} {op a n : Int}
end
section
variable {h : DHost} {g : Int} {x : DGuest}
theorem aAj(e:DExit):fC e=some (M.lacks e):=by unfold fC M.lacks;cases decide (e.Why=2)<;>rfl
theorem aQa(hs:SmallH h)(e:DExit):jD h g e=some (M.answered h g e):=by unfold jD M.answered;rw[bHj hs,bHg hs];cases decide (e.Why=2)<;>rfl
theorem bBx(hs:SmallH h)(l:Live h g x)(hk:M.lacks (M.guestExit h g)=true)(ha:(M.answered h g (M.guestExit h g)).2=true):∃y,SmallH (M.answered h g (M.guestExit h g)).1/\Live (M.answered h g (M.guestExit h g)).1 g y:=by rw[yS l]at hk ha ⊢;obtain⟨f,p0,p1,f0,f1,e,hok,_,_⟩:=aNb hs l hk ha;rw[e];exact⟨_,aDf hs l f0 f1,aQu hs l p0 p1 f0 f1 hok⟩
def stI(h:DHost)(e:DExit)(k:Int):(List Int)×(List DGuest)×Int×Int×Int×Int×Int×Int:=(h.Words,h.Guests,e.Why,e.Page,e.What.Op,e.What.A,e.What.N,k)
theorem aJv:∀{n:Nat} {k:Int} {h:DHost} {x:DGuest},k+n=8->0<=k->SmallH h->Live h g x->iter (cZ g) (stI h (M.guestExit h g) k)=some (.ret (match M.ready g n h with
 |some h'=> .go (h'.Words,h'.Guests)
 |none=> .out (⟨[],[]⟩,false)))
 |0,k,h,x,hk,k0,hs,l=>by rw[dH];have:cZ g (stI h (M.guestExit h g) k)=some (.ret (.go (h.Words,h.Guests))):=(by unfold cZ stI;simp only;rw[dF (by omega)];rfl);rw[this];rfl
 |n+1,k,h,x,hk,k0,hs,l=>by rw[dH];unfold M.ready;(cases hl:M.lacks (M.guestExit h g)with|false=>have:cZ g (stI h (M.guestExit h g) k)=some (.ret (.go (h.Words,h.Guests))):=(by unfold cZ stI;simp only;rw[dT (by omega),cTq];show Option.bind (fC (M.guestExit h g)) _=_;rw[aAj,hl];rfl);rw[this];rfl|true=>rw[cTq];(cases ha:(M.answered h g (M.guestExit h g)).2 with|false=>have:cZ g (stI h (M.guestExit h g) k)=some (.ret (.out (⟨[],[]⟩,false))):=(by unfold cZ stI;simp only;rw[dT (by omega),cTq];show Option.bind (fC (M.guestExit h g)) _=_;rw[aAj,hl,oB,cTq];show Option.bind (jD h g (M.guestExit h g)) _=_;rw[aQa hs,oB,ha];rfl);rw[this];rfl|true=>obtain⟨y,hs2,l2⟩:=bBx hs l hl ha;have:cZ g (stI h (M.guestExit h g) k)=some (.next (stI (M.answered h g (M.guestExit h g)).1 (M.guestExit (M.answered h g (M.guestExit h g)).1 g) (k+1))):=(by unfold cZ stI;simp only;rw[dT (by omega),cTq];show Option.bind (fC (M.guestExit h g)) _=_;rw[aAj,hl,oB,cTq];show Option.bind (jD h g (M.guestExit h g)) _=_;rw[aQa hs,oB,ha,bT,cFq,aYv l2,<-yS l2,oB,aF (by omega) (by omega)]);rw[this,cTq];exact aJv (by omega) (by omega) hs2 l2))
theorem bLa(hs:SmallH h)(l:Live h g x):rP h g=some (match M.ready g 8 h with
 |some h'=>(h',true)
 |none=>(⟨[],[]⟩,false)):=by
 unfold rP;rw[aYv l,<-yS l,oB];have:=aJv (g:=g) (n:=8) (k:=0) (by omega) (by omega) hs l;unfold stI at this;rw[this];simp only[oB,LO.val];(cases M.ready g 8 h with|none=>rfl|some h'=>rfl)
theorem bNo(l:Live h g x)(hc:M.cnt x.Pages (M.vw h.Words x)=0)(hb:M.busy x.C=false):
 (M.wpc (M.vw h.Words x)=-1/\M.placeAt h.Words x x.C.Pc false=(-1,1))\/
 (M.wpc (M.vw h.Words x)≠-1/\(M.placeAt h.Words x x.C.Pc false).2=0/\0<=(M.placeAt h.Words x x.C.Pc false).1/\(M.placeAt h.Words x x.C.Pc false).1<160/\M.ins (h.Words.getD (M.placeAt h.Words x x.C.Pc false).1.toNat default)=M.inst (M.vw h.Words x)):=by
 have hbo:=pG l;rcases uM l (a:=x.C.Pc) (w:=false) hbo.pc.1 hbo.pc.2 (t:=M.wpc (M.vw h.Words x)) rfl with⟨ht,hp⟩|⟨t0,t1,hpg,hp⟩;{exact .inl ⟨ht,hp⟩}
 · have hrd:M.reads (M.vw h.Words x)=true:=by
    unfold M.reads;rw[show M.busy (M.vw h.Words x).C=false from hb,dF (by omega)];rfl
   have c1:=aPn (Nat.eq_zero_of_add_eq_zero_right hc);rw[hrd,Bool.true_and]at c1;unfold M.lackS at c1;rw[Bool.false_and,Bool.or_false,decide_eq_false_iff_not]at c1;have hr:=cS l (p:=(M.wpc (M.vw h.Words x)/8).toNat) (by omega);have hw:=aTf l t0 t1 c1;rw[dF c1,cFq,Bool.false_and,cFq]at hp;refine .inr ⟨by omega,by rw[hp],by rw[hp];simp only;omega,by rw[hp];simp only;omega,?_⟩;rw[hp];show M.ins (h.Words.getD ((x.Pages.getD (M.wpc (M.vw h.Words x)/8).toNat default).Frame*8+M.wpc (M.vw h.Words x)%8).toNat default)=_;rw[hw];rfl
theorem bBj(l:Live h g x)(hc:M.cnt x.Pages (M.vw h.Words x)=0)(hb:M.busy x.C=false)(hp0:M.wpc (M.vw h.Words x)≠-1)(ho:(M.inst (M.vw h.Words x)).Op=3\/(M.inst (M.vw h.Words x)).Op=4):
 (M.wad (M.vw h.Words x)=-1/\M.comes (M.vw h.Words x)=false/\M.placeAt h.Words x (M.adr (M.vw h.Words x)) (M.isSt (M.vw h.Words x))=(-1,1))\/
 (M.wad (M.vw h.Words x)≠-1/\M.comes (M.vw h.Words x)=true/\0<=M.wad (M.vw h.Words x)/\M.wad (M.vw h.Words x)<64/\(M.shadeAt h.Words x (M.adr (M.vw h.Words x))).Page=M.wad (M.vw h.Words x)/8/\
  M.placeAt h.Words x (M.adr (M.vw h.Words x)) (M.isSt (M.vw h.Words x))=((x.Pages.getD (M.wad (M.vw h.Words x)/8).toNat default).Frame*8+M.wad (M.vw h.Words x)%8,0)/\
  0<=(x.Pages.getD (M.wad (M.vw h.Words x)/8).toNat default).Frame/\(x.Pages.getD (M.wad (M.vw h.Words x)/8).toNat default).Frame<20/\
  h.Words.getD ((x.Pages.getD (M.wad (M.vw h.Words x)/8).toNat default).Frame*8+M.wad (M.vw h.Words x)%8).toNat default=(M.vw h.Words x).Mem.getD (M.wad (M.vw h.Words x)).toNat default):=by
 have hrd:M.reads (M.vw h.Words x)=true:=(by unfold M.reads;rw[show M.busy (M.vw h.Words x).C=false from hb,dF hp0];rfl);have eo:(decide ((M.inst (M.vw h.Words x)).Op=3)||M.isSt (M.vw h.Words x))=true:=(by unfold M.isSt;simpa using ho);have har:0<=M.adr (M.vw h.Words x)/\M.adr (M.vw h.Words x)<=63:=(by unfold M.adr;omega);have hco:M.comes (M.vw h.Words x)=!decide (M.wad (M.vw h.Words x)=-1):=(by unfold M.comes;rw[hrd,eo];rfl);rcases uM l (a:=M.adr (M.vw h.Words x)) (w:=M.isSt (M.vw h.Words x)) har.1 har.2 (t:=M.wad (M.vw h.Words x)) rfl with⟨ht,hp⟩|⟨t0,t1,hpg,hp⟩;{exact .inl ⟨ht,by rw[hco,dT ht];rfl,hp⟩};{have hcm:M.comes (M.vw h.Words x)=true:=(by rw[hco,dF (by omega)];rfl);have c2:=aPn (Nat.eq_zero_of_add_eq_zero_left hc);rw[hcm,Bool.true_and]at c2;unfold M.lackS at c2;rw[Bool.or_eq_false_iff,decide_eq_false_iff_not]at c2;have hr:=cS l (p:=(M.wad (M.vw h.Words x)/8).toNat) (by omega);rw[dF c2.1,cFq,c2.2,cFq]at hp;exact .inr ⟨by omega,hcm,t0,t1,hpg,hp,by omega,hr.2,aTf l t0 t1 c2.1⟩}
theorem bFs(l:Live h g x):M.withM h g x (M.vw h.Words x)=h:=by have:=l.ok.three;have:=l.lo;have:=l.hi;have e:h.Guests.set g.toNat x=h.Guests:=(by apply List.ext_getElem (by simp);intro i q1 q2;rw[List.getElem_set];split;{rename_i e;subst e;rw[<-l.at_,bN q2]};{rfl});show(⟨h.Words,h.Guests.set g.toNat x⟩:DHost)=h;rw[e]
theorem bLs{b:DBare}(hw:M.wrote (M.vw h.Words x)=false)(e1:b.C=(M.step (M.vw h.Words x)).C)(e2:b.In=(M.step (M.vw h.Words x)).In)(e3:b.Out=(M.step (M.vw h.Words x)).Out):M.withM h g x b=M.ran h g x:=by unfold M.ran;rw[hw,cFq,bPk e1 e2 e3]
theorem aLn(hs:SmallH h)(l:Live h g x){b:DBare}(hw:M.wrote (M.vw h.Words x)=false)(hm:b.Mem=[])(e1:b.C=(M.step (M.vw h.Words x)).C)(e2:b.In=(M.step (M.vw h.Words x)).In)(e3:b.Out=(M.step (M.vw h.Words x)).Out):cM h g b=some (M.ran h g x):=by rw[aHr hs l (((aSk (pG l)).k.to e1 e2 e3).small (by rw[hm];simp)),bLs hw e1 e2 e3]
theorem aFy{b:DBare}(h:M.comes b=false):M.wrote b=false:=by unfold M.wrote;rw[h];rfl
theorem aQq{b:DBare}(h:M.busy b.C=true):M.wrote b=false:=aFy (aRs b h).2
theorem bCk{b:DBare}(h:M.wpc b=-1):M.wrote b=false:=aFy (by unfold M.comes M.reads;rw[dT h];simp)
theorem bCf{b:DBare}(h3:(M.inst b).Op≠3)(h4:(M.inst b).Op≠4):M.wrote b=false:=aFy (by unfold M.comes M.isSt;rw[dF h3,dF h4];simp)
theorem bVw{b b':DBare}(h1:b'.C=b.C)(h2:b'.In=b.In)(h3:b'.Out=b.Out){i:DIns}(n3:i.Op≠3)(n4:i.Op≠4):(M.did b' i).C=(M.did b i).C/\(M.did b' i).In=(M.did b i).In/\(M.did b' i).Out=(M.did b i).Out/\(M.did b' i).Mem=b'.Mem:=by rw[bAx b i n3 n4,bAx b' i n3 n4,h1];(cases M.kern i.Op with|false=>exact⟨rfl,h2,h3,rfl⟩|true=>(cases b.C.User with|true=>exact⟨rfl,h2,h3,rfl⟩|false=>obtain⟨e1,e2,e3⟩:=bTe h1 h2 h3 i;exact⟨e1,e2,e3,bDs _ _⟩))
end
section
variable {h : DHost} {g : Int} {x : DGuest}
theorem aVx(c:DCore):lW c=some (M.trap (M.quiet c) c.Pc 4 0):=rfl
theorem aJa(b:DBare)(addr:Int):fY b addr=some (M.with_ b (M.trap b.C b.C.Pc 2 addr)):=rfl
def tkm(x:DGuest):DBare:=⟨M.tick x.C,[],x.In,x.Out⟩
theorem aQf(l:Live h g x):KOk (tkm x):=(pG l).tick.k.to rfl rfl rfl
theorem bDb(l:Live h g x)(hi:M.insOk (M.inst (M.vw h.Words x))=true):cX (tkm x).C (M.inst (M.vw h.Words x))=some (M.adr (M.vw h.Words x)):=by have hk:=aQf l;unfold M.adr;generalize M.inst (M.vw h.Words x)=i at hi;obtain⟨op,a,n⟩:=i;simp only[M.insOk,bA,M.inR_iff]at hi;rw[aNj hk hi.2.1];show some (M.reg (M.tick x.C) (n%4)%64)=_;rw[aOs];rfl
theorem bLj{b:DBare}:0<=M.adr b/\M.adr b<=63:=by unfold M.adr;omega
theorem bLk(hs:SmallH h)(l:Live h g x)(hc:M.cnt x.Pages (M.vw h.Words x)=0)(hb:M.busy x.C=false)(hp:M.wpc (M.vw h.Words x)≠-1)(ho:(M.inst (M.vw h.Words x)).Op=3)(hst:M.step (M.vw h.Words x)=M.mdo (M.with_ (M.vw h.Words x) (M.tick x.C)) (M.inst (M.vw h.Words x))):
 rE h g (tkm x) (M.inst (M.vw h.Words x))=some (M.ran h g x):=by
 have hlw:=l.ok.len;have hi:=aSn (pG l);have ar:=bLj (b:=M.vw h.Words x);have hs4:M.isSt (M.vw h.Words x)=false:=(by unfold M.isSt;rw[ho];rfl);have hwr:M.wrote (M.vw h.Words x)=false:=(by unfold M.wrote;rw[hs4,Bool.and_false]);have me:=bAb (M.vw h.Words x) (.inl ho);rw[show(M.vw h.Words x).C=x.C from rfl]at me;rw[me,hs4,cFq]at hst;unfold rE;rw[bDb l hi,oB,sX l ar.1 ar.2,oB];rcases bBj l hc hb hp (.inl ho)with⟨hw,_,hpl⟩|⟨hw,_,t0,t1,_,hpl,f0,f1,hword⟩;{rw[hs4]at hpl;rw[dT hw,cTq]at hst;rw[hpl];simp only[Int.reduceEq,decide_false,bF,cTq];rw[aJa,oB,aLn hs l hwr rfl (by rw[hst];show M.trap (M.tick x.C) (M.tick x.C).Pc 2 _=M.trap (M.tick x.C) x.C.Pc 2 _;rw[vS]) (by rw[hst];rfl) (by rw[hst];rfl)];rfl};{rw[hs4]at hpl;rw[dF hw,cFq]at hst;rw[hpl];simp only[decide_true,bT,cFq];have hia:=hi;simp only[M.insOk,bA,M.inR_iff]at hia;rw[aC ⟨by omega,by omega⟩,rS (aQf l) hia.1.2.1 hia.1.2.2,oB,hword,aLn hs l hwr rfl (by rw[hst];rfl) (by rw[hst];rfl) (by rw[hst];rfl)];rfl}
theorem bHk(hs:SmallH h)(l:Live h g x)(hc:M.cnt x.Pages (M.vw h.Words x)=0)(hb:M.busy x.C=false)(hp:M.wpc (M.vw h.Words x)≠-1)(ho:(M.inst (M.vw h.Words x)).Op=4)(hst:M.step (M.vw h.Words x)=M.mdo (M.with_ (M.vw h.Words x) (M.tick x.C)) (M.inst (M.vw h.Words x))):
 pN h g (tkm x) (M.inst (M.vw h.Words x))=some (M.ran h g x):=by
 have hlw:=l.ok.len;have h3:=l.ok.three;have g0:=l.lo;have g1:=l.hi;have hpl8:=l.pages;have hi:=aSn (pG l);have ar:=bLj (b:=M.vw h.Words x);have hs4:M.isSt (M.vw h.Words x)=true:=(by unfold M.isSt;rw[ho];rfl);have me:=bAb (M.vw h.Words x) (.inr ho);rw[show(M.vw h.Words x).C=x.C from rfl]at me;rw[me,hs4,cTq]at hst;have hk:=aQf l;unfold pN;rw[bDb l hi,oB,sX l ar.1 ar.2,oB];rcases bBj l hc hb hp (.inr ho)with⟨hw,hcm,hpl⟩|⟨hw,hcm,t0,t1,hpg,hpl,f0,f1,hword⟩;{have hwr:=aFy hcm;rw[hs4]at hpl;rw[dT hw,cTq]at hst;rw[hpl];simp only[Int.reduceEq,decide_false,bF,cTq];rw[aJa,oB,aLn hs l hwr rfl (by rw[hst];show M.trap (M.tick x.C) (M.tick x.C).Pc 2 _=M.trap (M.tick x.C) x.C.Pc 2 _;rw[vS]) (by rw[hst];rfl) (by rw[hst];rfl)];rfl};{have hwr:M.wrote (M.vw h.Words x)=true:=(by unfold M.wrote;rw[hcm,hs4];rfl);rw[hs4]at hpl;rw[dF hw,cFq]at hst;rw[hpl];simp only[decide_true,bT,cFq];have hia:=hi;simp only[M.insOk,bA,M.inR_iff]at hia;have hgo:KOk (M.with_ (tkm x) (M.go (tkm x).C)):=(aSk (pG l)).k.to (by rw[hst];rfl) (by rw[hst];rfl) (by rw[hst];rfl);rw[aNp hk.pc.1 hk.pc.2,oB,aHr hs l (hgo.small (by simp[M.with_,tkm])),oB,aC (hk.gA hia.1.2.1 hia.1.2.2)];have gat:(M.withM h g x (M.with_ (tkm x) (M.go (tkm x).C))).Guests.getD g.toNat default=⟨x.Live,M.go (M.tick x.C),x.Pages,x.In,x.Out⟩:=(by have:=tO l (y:=⟨x.Live,M.go (M.tick x.C),x.Pages,x.In,x.Out⟩) (k:=g.toNat) (by omega);rw[if_pos (by omega)]at this;exact this);simp only[gat];rw[aC ⟨by omega,by show _<((h.Words.length:Nat):Int);omega⟩,aC ⟨g0,by show _<(((h.Guests.set _ _).length:Nat):Int);rw[lS];omega⟩,aAa l ar.1 ar.2,oB,hpg,aC ⟨by omega,by omega⟩];unfold M.ran;rw[hwr,cTq,hst];show some (⟨h.Words.set _ (M.reg (M.tick x.C) (M.inst (M.vw h.Words x)).A),(h.Guests.set g.toNat _).set g.toNat ⟨x.Live,M.go (M.tick x.C),x.Pages.set (M.wad (M.vw h.Words x)/8).toNat (M.dirty x (M.wad (M.vw h.Words x)/8).toNat),x.In,x.Out⟩⟩:DHost)=_;rw[List.set_set,aOs];rfl}
theorem bXx(hs:SmallH h)(l:Live h g x)(hc:M.cnt x.Pages (M.vw h.Words x)=0):yX h g=some (M.ran h g x):=by have hlw:=l.ok.len;have hb:=pG l;have he:=bCn (M.vw h.Words x);have hq:(M.vw h.Words x).C=x.C:=rfl;rw[hq]at he;unfold yX;rw[bBz l,oB];show cond x.C.Stopped _ (Option.bind (gW x.C) _)=_;(cases hst:x.C.Stopped with|true=>rw[hst,cTq]at he;rw[cTq,lL hs l.ok];show some h=_;rw[<-bLs (b:=M.vw h.Words x) (aQq (by show M.busy x.C=true;unfold M.busy;rw[hst];rfl)) (by rw[he]) (by rw[he]) (by rw[he]),bFs l]|false=>rw[hst,cFq]at he;rw[cFq,aYj (c:=x.C) hb.timer.1 hb.timer.2,oB,aCw,oB];(cases hti:(M.tick x.C).Waits&&(M.tick x.C).On with|true=>rw[hti,cTq]at he;rw[cTq,aVx,oB];rw[aLn hs l (aQq (by show M.busy x.C=true;unfold M.busy;rw[hti,Bool.or_true])) rfl (by rw[he];show M.trap _ (M.tick x.C).Pc 4 0=_;rw[vS];rfl) (by rw[he];rfl) (by rw[he];rfl)];rfl|false=>have hbz:M.busy x.C=false:=(by unfold M.busy;rw[hst,hti];rfl);rw[hti,cFq]at he;have hgw:dS h g (M.tick x.C).Pc false=some (M.placeAt h.Words x x.C.Pc false):=(by rw[vS];exact sX l hb.pc.1 hb.pc.2);rw[cFq,hgw,oB];rcases bNo l hc hbz with⟨hw,hp⟩|⟨hw,hp2,hp0,hp1,hins⟩;{rw[dT hw,cTq]at he;rw[hp];simp only[Int.reduceEq,decide_false,bF,cTq];rw[aJa,oB,aLn hs l (bCk hw) rfl (by rw[he];show M.trap (M.tick x.C) (M.tick x.C).Pc 2 (M.tick x.C).Pc=M.trap (M.tick x.C) x.C.Pc 2 x.C.Pc;rw[vS]) (by rw[he];rfl) (by rw[he];rfl)];rfl};{rw[dF hw,cFq]at he;have hwd:=mP l.ok.words (i:=(M.placeAt h.Words x x.C.Pc false).1.toNat) (by omega);rw[dT hp2,bT,cFq,aC ⟨hp0,by omega⟩,aVl hwd.1 hwd.2,oB,hins];show Option.bind (oN h g (tkm x) (M.inst (M.vw h.Words x))) _=_;have key:oN h g (tkm x) (M.inst (M.vw h.Words x))=some (M.ran h g x):=(by unfold oN;by_cases h3:(M.inst (M.vw h.Words x)).Op=3;{rw[bBh _ _ (.inl h3)]at he;rw[dT h3,cTq,bLk hs l hc hbz hw h3 he];rfl};{by_cases h4:(M.inst (M.vw h.Words x)).Op=4;{rw[bBh _ _ (.inr h4)]at he;rw[dF h3,dT h4,cFq,cTq,bHk hs l hc hbz hw h4 he];rfl};{obtain⟨e1,e2,e3,e4⟩:=bVw (b:=M.with_ (M.vw h.Words x) (M.tick x.C)) (b':=tkm x) rfl rfl rfl h3 h4;rw[dF h3,dF h4,cFq,cFq,bCe (aQf l) (aSn hb) h3 h4,oB,aLn hs l (bCf h3 h4) e4 (by rw[he];exact e1) (by rw[he];exact e2) (by rw[he];exact e3)];rfl}});rw[key];rfl}))
end
theorem bIh{h:DHost}{g:Int}(hs:SmallH h):pD h g=some (M.hostStep h g):=by unfold pD M.hostStep;rw[yW hs,oB];(cases ht:M.there h g with|false=>rfl|true=>have l:=fL hs ht;rw[bT,cFq,cTq,bLa hs l,oB];rcases aPl (n:=8) hs l (by have:=bDn (ps:=(h.Guests.getD g.toNat default).Pages) (b:=M.vw h.Words (h.Guests.getD g.toNat default));omega)with hr|⟨h',x',hr,r⟩;{rw[hr];simp only[bF,cTq];rw[lL hs l.ok];rfl};{rw[hr];simp only[bT,cFq];rw[bXx r.small r.live r.none,r.live.at_];rfl})
section
variable {h : DHost} {g : Int} {x : DGuest}
end
theorem aEd{h:DHost}{g:Int}(hs:SmallH h):
 (M.there h g=false/\M.hostStep h g=(M.zeroH,false))\/(∃x,Live h g x/\M.hostStep h g=(h,false))\/
 (∃x h' x' y,Live h g x/\Rdy h g x h' x'/\Ran h' g x' y/\M.hostStep h g=(M.ran h' g x',true)):=by
 unfold M.hostStep;(cases ht:M.there h g with|false=>exact .inl ⟨rfl,rfl⟩|true=>have l:=fL hs ht;rw[cTq];rcases aPl (n:=8) hs l (by have:=bDn (ps:=(h.Guests.getD g.toNat default).Pages) (b:=M.vw h.Words (h.Guests.getD g.toNat default));omega)with hr|⟨h',x',hr,r⟩;{rw[hr];exact .inr (.inl ⟨_,l,rfl⟩)};{rw[hr];obtain⟨y,hy⟩:=bVc r.small r.live r.none;refine .inr (.inr ⟨_,h',x',y,l,r,hy,?_⟩);simp only[r.live.at_]})
theorem aTz{h:DHost}{g:Int}(hs:SmallH h):SmallH (M.hostStep h g).1:=by rcases aEd (g:=g) hs with⟨_,e⟩|⟨x,l,e⟩|⟨x,h',x',y,l,r,hy,e⟩<;>rw[e];{exact uQ};{exact hs};{exact hy.small}
namespace M
noncomputable def turn (s:DHost×Int)(g:Int):DHost×Int:=bif (hostStep s.1 g).2 then((hostStep s.1 g).1,s.2+1)else s
noncomputable def turns (h:DHost)(ts:List Int):DHost×Int:=ts.foldl turn (h,0)
noncomputable def hostRun (h:DHost)(ts:List Int):DHost×Int:=bif hostOk h then(bif decide (200<ts.length)then(zeroH,0)else turns h ts)else(zeroH,0)
end M
theorem bIc{s:DHost×Int}{g:Int}(hs:SmallH s.1):SmallH (M.turn s g).1:=by unfold M.turn;cases(M.hostStep s.1 g).2;{exact hs};{exact aTz hs}
theorem bOf{s:DHost×Int}{g:Int}:(M.turn s g).2=s.2\/(M.turn s g).2=s.2+1:=by unfold M.turn;cases(M.hostStep s.1 g).2;{exact .inl rfl};{exact .inr rfl}
theorem bFa{h:DHost}{ts:List Int}(hs:SmallH h)(hl:ts.length<=200):iter (jQ ts) (h.Words,h.Guests,(0:Int),(0:Int))=some (.ret (.go ((M.turns h ts).1.Words,(M.turns h ts).1.Guests,(M.turns h ts).2)))/\SmallH (M.turns h ts).1:=by
 have key:=qC (xs:=ts) (step:=jQ ts) (λ(s:DHost×Int) i=>(s.1.Words,s.1.Guests,s.2,i)) M.turn (λs=> .go (s.1.Words,s.1.Guests,s.2)) (λi s=>SmallH s.1/\0<=s.2/\s.2<=i) (λi x s h1 h2 h3 ⟨i1,i2,i3⟩=>by
  have hn:=bOf (s:=s) (g:=x);refine⟨?_,bIc i1,by omega,by omega⟩;simp only[jQ,dT h1,cTq];rw[aC ⟨by omega,h1⟩,iT,h3,bIh (h:=⟨s.1.Words,s.1.Guests⟩) i1,oB];unfold M.turn;cases hb:(M.hostStep s.1 x).2 with
  |false=>simp only[hb,cFq,oB,JO.run,sC];rw[aF (by omega) (by omega)]
  |true=>simp only[hb,cTq,oB,JO.run,sC];rw[aF (by omega) (by omega),aF (by omega) (by omega)]) (λs _=>by
  simp only[jQ];rw[dF (by omega),cFq]) (h,0) ⟨hs,Int.le_refl 0,Int.le_refl 0⟩
 exact⟨key.1,key.2.1⟩
theorem aUi{h:DHost}{ts:List Int}(hs:SmallH h):mY h ts=some (M.hostRun h ts):=by unfold mY M.hostRun;rw[aAy hs,oB];(cases ho:M.hostOk h with|false=>rfl|true=>rw[bT,cFq,cTq];by_cases hl:200<ts.length;{rw[dT (by omega),dT hl];rfl};{rw[dF (by omega),dF hl,cFq,cFq,lL hs (dZ.1 ho),oB,(bFa hs (by omega)).1];rfl})
theorem aHy{h:DHost}{ts:List Int}(hs:SmallH h):SmallH (M.hostRun h ts).1:=by unfold M.hostRun;(cases M.hostOk h with|false=>exact uQ|true=>rw[cTq];by_cases hl:200<ts.length;{rw[dT hl];exact uQ};{rw[dF hl,cFq];exact(bFa hs (by omega)).2})
namespace M
def turnsOf(xs:List Int)(g:Int):Nat:=xs.countP λx=>decide (x=g)
end M
theorem aFa{xs:List Int}{g:Int}:M.turnsOf xs g<=xs.length:=List.countP_le_length
theorem bBr{xs ys:List Int}{g:Int}:M.turnsOf (xs++ys) g=M.turnsOf xs g+M.turnsOf ys g:=List.countP_append
theorem aZx{xs:List Int}{g:Int}{i:Nat}(hi:i<xs.length):M.turnsOf (xs.take (i+1)) g=M.turnsOf (xs.take i) g+(bif decide (xs.getD i default=g)then 1 else 0):=by have e:xs.take (i+1)=xs.take i++[xs.getD i default]:=(by rw[List.take_add_one,bN hi,List.getElem?_eq_getElem hi];rfl);rw[e,bBr];congr 1
theorem bJz{xs:List Int}{g:Int}(h:xs.length<=1048576):nG xs g=some (M.turnsOf xs g:Int):=by
 have key:=lY (n:=xs.length) (step:=jP xs g) (λi=>((M.turnsOf (xs.take i) g:Int),(i:Int))) (λ_=>true) (.go (M.turnsOf xs g:Int)) (.go 0) (λi hi _=>by
  have hl:=aFa (xs:=xs.take i) (g:=g);have h1:(i:Int)<(xs.length:Int):=(by omega);rw[List.length_take]at hl;simp only[jP,dT h1,cTq];rw[aC ⟨by omega,h1⟩,iT,aZx hi,Int.natCast_add,aF (by omega) (by omega)];cases hb:decide (xs.getD i default=g)with
  |false=>simp only[cFq,oB,JO.run,sD];rw[aF (by omega) (by omega)];simp
  |true=>simp only[cTq,oB,JO.run,sD];rw[aF (by omega) (by omega)];rfl) (λ_=>by
  simp only[jP];rw[dF (by omega),cFq,List.take_length])
 have e:(List.range xs.length).all (λ_=>true)=true:=(by simp);rw[e]at key;unfold nG;show Option.bind (Option.bind (iter (jP xs g) ((M.turnsOf (xs.take 0) g:Int),0)) LO.val) _=_;rw[show(0:Int)=((0:Nat):Int)from rfl,key];rfl
section
variable {b : DBare} {op a n : Int}
end
section
variable {b : DBare} {op a n : Int}
end
namespace M
def steps:Nat->DBare->DBare
 |0,b=>b
 |n+1,b=>step (steps n b)
end M
section
variable {b : DBare} {n : Int}
end
structure AlongT (h : DHost) (s : DHost × Int) (c : Nat → Nat) : Prop where
 ok:M.hostOk s.1=true
 small:SmallH s.1
 views:∀k:Nat,k<3->M.there h (k:Int)=true->M.hostView s.1 (k:Int)=(M.steps (c k) (M.hostView h (k:Int)).1,true)
 gone:∀k:Nat,k<3->M.there h (k:Int)=false->M.hostView s.1 (k:Int)=M.hostView h (k:Int)/\c k=0
 num:s.2=((c 0+c 1+c 2:Nat):Int)
theorem uS{h:DHost}{g:Int}:(M.hostView h g).2=M.there h g:=by unfold M.hostView;cases M.there h g<;>rfl
theorem bFr{h:DHost}{s:DHost×Int}{c:Nat->Nat}(a:AlongT h s c)(g:Int):∃c',AlongT h (M.turn s g) c'/\∀k:Nat,k<3->c' k<=c k+(if g=(k:Int)then 1 else 0):=by
 have same:(M.hostStep s.1 g).2=false->∃c',AlongT h (M.turn s g) c'/\∀k:Nat,k<3->c' k<=c k+(if g=(k:Int)then 1 else 0):=λe=>by refine⟨c,?_,λk _=>Nat.le_add_right _ _⟩;unfold M.turn;rw[e];exact a
 rcases aEd (g:=g) a.small with⟨_,e⟩|⟨x,l,e⟩|⟨x,h',x',y,l,r,hy,e⟩;{exact same (by rw[e])};{exact same (by rw[e])}
 · have g0:=l.lo;have g1:=l.hi
   have et:M.turn s g=(M.ran h' g x',s.2+1):=(by unfold M.turn;rw[e];rfl);have tg:M.there s.1 g=true:=aHh l;have hg:((g.toNat:Nat):Int)=g:=(by omega);have th:M.there h g=true:=(by(cases hh:M.there h g with|true=>rfl|false=>have:=(a.gone g.toNat (by omega) (by rw[hg];exact hh)).1;rw[hg]at this;have e2:=uS (h:=s.1) (g:=g);rw[this,uS,hh,tg]at e2;cases e2));refine⟨λk=>c k+(if g=(k:Int)then 1 else 0),?_,λk _=>Nat.le_refl _⟩;rw[et];have ot:∀k:Nat,k<3->(k:Int)≠g->M.hostView (M.ran h' g x') (k:Int)=M.hostView s.1 (k:Int):=λk hk hn=>(hy.others k hk hn).trans (r.views k hk);refine⟨dZ.2 hy.ok,hy.small,λk hk ht=>?_,λk hk ht=>?_,?_⟩;{by_cases q:g=(k:Int);{subst q;rw[if_pos rfl];have hv:=a.views k hk ht;rw[aJj l]at hv;have hv1:M.vw s.1.Words x=M.steps (c k) (M.hostView h (k:Int)).1:=congrArg Prod.fst hv;show M.hostView (M.ran h' (k:Int) x') (k:Int)=_;rw[hy.view,r.same,hv1];rfl};{rw[if_neg q];exact(ot k hk (λe=>q e.symm)).trans (a.views k hk ht)}}
   · have q:g≠(k:Int):=λq=>by subst q;rw[th]at ht;cases ht
     rw[if_neg q];obtain⟨b1,b2⟩:=a.gone k hk ht;exact⟨(ot k hk (λe=>q e.symm)).trans b1,by omega⟩
   {have hn:=a.num;show s.2+1=_;rw[hn];have h3:g=0\/g=1\/g=2:=(by omega);rcases h3 with rfl|rfl|rfl<;>simp<;>omega}
theorem aMr{h:DHost}:∀(ts:List Int) {s:DHost×Int} {c:Nat->Nat},AlongT h s c->∃c',AlongT h (ts.foldl M.turn s) c'/\∀k:Nat,k<3->c' k<=c k+M.turnsOf ts (k:Int)
 |[],s,c,a=>⟨c,a,λk _=>Nat.le_add_right _ _⟩
 |g::ts,s,c,a=>by obtain⟨c1,a1,b1⟩:=bFr a g;obtain⟨c2,a2,b2⟩:=aMr ts a1;refine⟨c2,a2,λk hk=>?_⟩;have e:M.turnsOf (g::ts) (k:Int)=M.turnsOf ts (k:Int)+(if g=(k:Int)then 1 else 0):=(by unfold M.turnsOf;simp only[List.countP_cons,decide_eq_true_eq]);have:=b1 k hk;have:=b2 k hk;omega
namespace M
def lv(h:DHost)(ts:List Int)(k:Nat):Nat:=bif (h.Guests.getD k default).Live then turnsOf ts (k:Int)else 0
def sumLv(h:DHost)(ts:List Int):Nat->Nat
 |0=>0
 |n+1=>sumLv h ts n+lv h ts n
end M
theorem bBm{h:DHost}(hk:M.hostOk h=true){k:Nat}(h3:k<3):M.there h (k:Int)=(h.Guests.getD k default).Live:=by
 (cases e:(h.Guests.getD k default).Live with|true=>exact pW.2 ⟨dZ.1 hk,by omega,by omega,by rw[iT];exact e⟩|false=>(cases t:M.there h (k:Int)with|false=>rfl|true=>have:=(pW.1 t).2.2.2;rw[iT,e]at this;cases this))
theorem bYh{h:DHost}{ts:List Int}{k:Nat}:M.lv h ts k<=ts.length:=by unfold M.lv;cases(h.Guests.getD k default).Live;{exact Nat.zero_le _};{exact aFa}
theorem aPg{h:DHost}{ts:List Int}:∀n,M.sumLv h ts n<=n*ts.length
 |0=>by simp[M.sumLv]
 |n+1=>by have:=aPg (h:=h) (ts:=ts) n;have:=bYh (h:=h) (ts:=ts) (k:=n);rw[Nat.succ_mul];show M.sumLv h ts n+M.lv h ts n<=_;omega
structure Runs (h : DHost) (ts : List Int) (c : Nat → Nat) : Prop where
 ok:M.hostOk (M.hostRun h ts).1=true
 num:(M.hostRun h ts).2=((c 0+c 1+c 2:Nat):Int)
 most:∀k:Nat,k<3->c k<=M.lv h ts k
 views:∀k:Nat,k<3->M.there h (k:Int)=true->M.hostView (M.hostRun h ts).1 (k:Int)=(M.steps (c k) (M.hostView h (k:Int)).1,true)
 gone:∀k:Nat,k<3->M.there h (k:Int)=false->M.hostView (M.hostRun h ts).1 (k:Int)=M.hostView h (k:Int)
theorem aZa{h:DHost}{ts:List Int}(hs:SmallH h)(hk:M.hostOk h=true)(hl:ts.length<=200):∃c,Runs h ts c:=by have e:M.hostRun h ts=ts.foldl M.turn (h,0):=(by unfold M.hostRun;rw[hk,cTq,dF (by omega)];rfl);have a0:AlongT h (h,0) (λ_=>0):=⟨hk,hs,λk _ ht=>by have:=uS (h:=h) (g:=(k:Int));rw[ht]at this;exact Prod.ext rfl this,λk _ _=>⟨rfl,rfl⟩,rfl⟩;obtain⟨c,a,b⟩:=aMr ts a0;rw[<-e]at a;refine⟨c,a.ok,a.num,λk h3=>?_,a.views,λk h3 ht=>(a.gone k h3 ht).1⟩;unfold M.lv;rw[<-bBm hk h3];(cases t:M.there h (k:Int)with|false=>rw[(a.gone k h3 t).2];exact Nat.zero_le _|true=>rw[cTq];have:=b k h3;omega)
theorem aZe{h:DHost}{ts:List Int}{c:Nat->Nat}(r:Runs h ts c)(he:((M.sumLv h ts 3:Nat):Int)<=(M.hostRun h ts).2){k:Nat}(hk:k<3):c k=M.lv h ts k:=by have h0:=r.most 0 (by omega);have h1:=r.most 1 (by omega);have h2:=r.most 2 (by omega);have hn:=r.num;have e:M.sumLv h ts 3=0+M.lv h ts 0+M.lv h ts 1+M.lv h ts 2:=rfl;have h3:k=0\/k=1\/k=2:=(by omega);rcases h3 with rfl|rfl|rfl<;>omega
theorem bPy{h:DHost}{ts:List Int}(hk:HOk h)(hl:ts.length<=200){k:Nat}(h3:k<3){R:Type}{K:Int->Option R}:
 Option.bind (grd ((0:Int)<=(k:Int)/\(k:Int)<((List.length h.Guests:Nat):Int)) (cond (List.getD h.Guests k default).Live (Option.bind (nG ts (k:Int)) λv23=>some (JO.go (w64 ((M.sumLv h ts k:Int)+v23)))) (some (JO.go (M.sumLv h ts k:Int):JO Int R)))) (λj=>JO.run j K)=K (M.sumLv h ts (k+1):Int):=by
 have hg:=hk.three;have:=aPg (h:=h) (ts:=ts) k;have:k*ts.length<=3*200:=Nat.mul_le_mul (by omega) hl;have ht:=aFa (xs:=ts) (g:=(k:Int));rw[aC ⟨by omega,by omega⟩];have e:M.sumLv h ts (k+1)=M.sumLv h ts k+M.lv h ts k:=rfl;rw[e];unfold M.lv;(cases(h.Guests.getD k default).Live with|false=>rw[cFq,cFq,Nat.add_zero];rfl|true=>rw[cTq,cTq,bJz (by omega),oB,aF (by omega) (by omega),<-Int.natCast_add];rfl)
section
variable {T : Type} [Inhabited T] {f : T → T} {k : Nat} {xs : List T}
def up{T:Type}(f:T->T)(k:Nat)(xs:List T):List T:=xs.mapIdx λi x=>if i<k then f x else x
theorem aGo{i:Nat}:(up f k xs)[i]? =(xs[i]?).map λx=>if i<k then f x else x:=by simp[up]
theorem aEa:(up f k xs).length=xs.length:=by simp[up]
theorem bDr:up f 0 xs=xs:=by apply List.ext_getElem?;intro i;rw[aGo];cases xs[i]? <;>simp
theorem bJc(h:xs.length<=k):up f k xs=xs.map f:=by apply List.ext_getElem?;intro i;rw[aGo,List.getElem?_map];by_cases e:i<xs.length;{rw[List.getElem?_eq_getElem e];simp only[Option.map_some,if_pos (show i<k by omega)]};{rw[List.getElem?_eq_none (by omega)];rfl}
theorem bAv(h:k<xs.length):(up f k xs).set k (f (xs.getD k default))=up f (k+1) xs:=by apply List.ext_getElem?;intro i;rw[List.getElem?_set,aGo,aGo];by_cases e:k=i;{subst e;rw[if_pos rfl,if_pos (by rw[aEa];exact h),List.getElem?_eq_getElem h,bN h];simp};{rw[if_neg e];(cases xs[i]? with|none=>rfl|some x=>simp only[Option.map_some];by_cases q:i<k;{rw[if_pos q,if_pos (by omega)]};{rw[if_neg q,if_neg (by omega)]})}
theorem bSf{i:Nat}(h:i<xs.length):(up f k xs).getD i default=if i<k then f (xs.getD i default)else xs.getD i default:=by rw[List.getD_eq_getElem?_getD,aGo,List.getElem?_eq_getElem h,bN h];rfl
theorem bYe(h:k<xs.length):(up f k xs).getD k default=xs.getD k default:=by rw[bSf h,if_neg (by omega)]
theorem bRe(h:k<xs.length)(he:f (xs.getD k default)=xs.getD k default):up f k xs=up f (k+1) xs:=by rw[<-bAv h,he];apply List.ext_getElem?;intro i;rw[List.getElem?_set];by_cases e:k=i;{subst e;rw[if_pos rfl,if_pos (by rw[aEa];exact h),aGo,List.getElem?_eq_getElem h,bN h];simp};{rw[if_neg e]}
end
namespace M
def mapG(f:DSlot->DSlot)(g:DGuest):DGuest:=⟨g.Live,g.C,g.Pages.map f,g.In,g.Out⟩
def upG(f:DSlot->DSlot)(j:Nat)(g:DGuest):DGuest:=⟨g.Live,g.C,up f j g.Pages,g.In,g.Out⟩
def upGs(f:DSlot->DSlot)(k j:Nat)(gs:List DGuest):List DGuest:=(up (mapG f) k gs).set k (upG f j (gs.getD k default))
end M
section
variable {f : DSlot → DSlot} {k j : Nat} {gs : List DGuest}
theorem bOe{g:DGuest}:M.upG f 0 g=g:=by unfold M.upG;rw[bDr]
theorem bSg{g:DGuest}(h:g.Pages.length<=j):M.upG f j g=M.mapG f g:=by unfold M.upG M.mapG;rw[bJc h]
theorem aAq:(M.upGs f k j gs).length=gs.length:=by unfold M.upGs;rw[lS,aEa]
theorem bLn(h:k<gs.length):M.upGs f k 0 gs=up (M.mapG f) k gs:=by unfold M.upGs;rw[bOe];apply List.ext_getElem?;intro i;rw[List.getElem?_set];by_cases e:k=i;{subst e;rw[if_pos rfl,if_pos (by rw[aEa];exact h),aGo,List.getElem?_eq_getElem h,bN h];simp};{rw[if_neg e]}
theorem aGb(h:k<gs.length)(hj:(gs.getD k default).Pages.length<=j):M.upGs f k j gs=up (M.mapG f) (k+1) gs:=by unfold M.upGs;rw[bSg hj,bAv h]
theorem aTs(h:k<gs.length):(M.upGs f k j gs).getD k default=M.upG f j (gs.getD k default):=by unfold M.upGs;rw[bN (by rw[lS,aEa];exact h),List.getElem_set_self]
theorem bMf(h:k<gs.length){y:DGuest}:(M.upGs f k j gs).set k y=(up (M.mapG f) k gs).set k y:=by unfold M.upGs;rw[List.set_set]
theorem aHa(h:k<gs.length)(hj:j<(gs.getD k default).Pages.length){s:DSlot}(hs:s=f ((gs.getD k default).Pages.getD j default)):
 (M.upGs f k j gs).set k ⟨((M.upGs f k j gs).getD k default).Live,((M.upGs f k j gs).getD k default).C,((M.upGs f k j gs).getD k default).Pages.set j s,((M.upGs f k j gs).getD k default).In,((M.upGs f k j gs).getD k default).Out⟩=M.upGs f k (j+1) gs:=by
 rw[aTs h,bMf h];unfold M.upGs;congr 1;unfold M.upG;simp only;rw[hs,bAv hj]
theorem wU(h:k<gs.length)(hj:j<(gs.getD k default).Pages.length)(hs:f ((gs.getD k default).Pages.getD j default)=(gs.getD k default).Pages.getD j default):M.upGs f k j gs=M.upGs f k (j+1) gs:=by unfold M.upGs M.upG;rw[bRe hj hs]
theorem aJs(h:k<gs.length)(hj:j<(gs.getD k default).Pages.length):((M.upGs f k j gs).getD k default).Pages.getD j default=(gs.getD k default).Pages.getD j default:=by rw[aTs h];unfold M.upG;exact bYe hj
theorem xN(h:k<gs.length):((M.upGs f k j gs).getD k default).Pages.length=(gs.getD k default).Pages.length:=by rw[aTs h];unfold M.upG;exact aEa
end
theorem aUf{f:DSlot->DSlot}:∀{gs:List DGuest},M.slots (gs.map (M.mapG f))=(M.slots gs).map f
 |[]=>rfl
 |g::gs=>by have ih:=aUf (f:=f) (gs:=gs);simp only[M.slots,List.map_cons,List.flatMap_cons,List.map_append]at ih ⊢;rw[ih];rfl
theorem bOj{f:DSlot->DSlot}{ss:List DSlot}{q:Int}:M.many (ss.map f) q=ss.countP λs=>decide ((f s).Frame=q):=by unfold M.many;rw[List.countP_map];rfl
theorem bQb{ss:List DSlot}{q:Int}:0<M.many ss q↔∃s∈ss,s.Frame=q:=by unfold M.many;rw[List.countP_pos_iff];simp
theorem aBl{gs:List DGuest}{k j:Nat}(h:k<gs.length)(hj:j<(gs.getD k default).Pages.length):(gs.getD k default).Pages.getD j default∈M.slots gs:=by simp only[M.slots,List.mem_flatMap];exact⟨_,cG h,cG hj⟩
theorem aUz{f:DSlot->DSlot}{ws:List Int}{gs:List DGuest}(hs:SmallH ⟨ws,gs⟩):SmallH ⟨ws,gs.map (M.mapG f)⟩:=by refine⟨hs.words,by simpa using hs.guests,λg hg=>?_⟩;obtain⟨x,hx,rfl⟩:=List.mem_map.1 hg;have a:=hs.all x hx;exact⟨a.c,by simpa[M.mapG]using a.pages,a.i,a.o⟩
theorem aWu{f:DSlot->DSlot}{gs:List DGuest}{k:Nat}(h:k<gs.length):(gs.map (M.mapG f)).getD k default=M.mapG f (gs.getD k default):=by rw[bN (by simpa using h),bN h,List.getElem_map]
theorem bNx{T U:Type}[Inhabited T][Inhabited U]{f:T->U}{xs:List T}{j:Nat}(h:j<xs.length):(xs.map f).getD j default=f (xs.getD j default):=by rw[bN (by rw[List.length_map];exact h),bN h,List.getElem_map]
theorem aRp{f:DSlot->DSlot}{gs:List DGuest}(h:gs.all M.guestOk=true)(hf:∀s∈M.slots gs,M.slotOk (f s)=true):(gs.map (M.mapG f)).all M.guestOk=true:=by rw[List.all_eq_true];intro y hy;obtain⟨x,hx,rfl⟩:=List.mem_map.1 hy;have ho:=List.all_eq_true.1 h x hx;unfold M.guestOk at ho ⊢;(cases hl:x.Live with|true=>rw[hl,cTq]at ho;simp only[bA,decide_eq_true_eq]at ho;simp only[M.mapG,hl,cTq,bA,decide_eq_true_eq,List.length_map];refine⟨⟨⟨ho.1.1.1,ho.1.1.2.1,?_⟩,ho.1.2⟩,ho.2⟩;rw[List.all_eq_true];intro s hs;obtain⟨t,ht,rfl⟩:=List.mem_map.1 hs;exact hf t (List.mem_flatMap.2 ⟨x,hx,ht⟩)|false=>rw[hl,cFq,decide_eq_true_eq]at ho;rw[ho];simp only[M.mapG,M.noGuest,cFq,decide_eq_true_eq,List.map_nil])
theorem bOr {f:DSlot->DSlot} {h:DHost} (hs:SmallH h) (hk:M.hostOk h=true) (hk2:M.hostOk ⟨h.Words,h.Guests.map (M.mapG f)⟩=true)
 (hf:∀s∈M.slots h.Guests,∀a,a<8->(if(f s).Frame<0 then 0 else h.Words.getD ((f s).Frame.toNat*8+a) default)=(if s.Frame<0 then 0 else h.Words.getD (s.Frame.toNat*8+a) default)) {k:Nat} (h3:k<3):
 M.hostView ⟨h.Words,h.Guests.map (M.mapG f)⟩ (k:Int)=M.hostView h (k:Int):=by
 have hlen:=(dZ.1 hk).three;have e1:M.there ⟨h.Words,h.Guests.map (M.mapG f)⟩ (k:Int)=M.there h (k:Int):=(by unfold M.there;rw[hk,hk2,iT,aWu (by omega)];rfl);unfold M.hostView;rw[e1];(cases ht:M.there h (k:Int)with|false=>rfl|true=>have l:=fL hs ht;rw[iT]at l ⊢;rw[aWu (by omega)];have hp:=l.pages;have:M.mem h.Words (M.mapG f (h.Guests.getD k default)).Pages=M.mem h.Words (h.Guests.getD k default).Pages:=(by refine pX fZ fZ λa ha=>?_;rw[kH ha,kH ha];unfold M.word;have e:(M.mapG f (h.Guests.getD k default)).Pages.getD (a/8) default=f ((h.Guests.getD k default).Pages.getD (a/8) default):=(by exact bNx (by omega));rw[e];exact hf _ (aBl (by omega) (by omega)) (a%8) (by omega));rw[cTq,cTq,this];rfl)
namespace M
def alike(ws:List Int)(ss:List DSlot)(f:Int)(o:Nat):Bool:=decide (0<many ss (o:Int))&&decide (page ws o=page ws f.toNat)
def firstIn(ws:List Int)(ss:List DSlot)(f:Int):Int:=match (List.range 20).find? (alike ws ss f)with
 |some o=>(o:Int)
 |none=>f
def shareS(ws:List Int)(ss:List DSlot)(s:DSlot):DSlot:=bif decide (s.Frame=-1)then s else⟨firstIn ws ss s.Frame,s.Write,s.Dirty⟩
def aloneS(ss:List DSlot)(s:DSlot):DSlot:=bif s.Write&&decide (1<many ss s.Frame)then⟨s.Frame,false,s.Dirty⟩else s
def sharedG(h:DHost):List DGuest:=h.Guests.map (mapG (shareS h.Words (slots h.Guests)))
noncomputable def hostShare (h:DHost):DHost:=bif hostOk h then⟨h.Words,(sharedG h).map (mapG (aloneS (slots (sharedG h))))⟩else⟨[],[]⟩
end M
theorem uY{p:Nat->Bool}:∀{n i:Nat},(List.range n).find? p=some i↔(i<n/\p i=true/\∀j,j<i->p j=false)
 |0,i=>by simp
 |n+1,i=>by
  rw[List.range_succ,List.find?_append];cases e:(List.range n).find? p with
  |some o=>
   have h:=(uY (n:=n) (i:=o)).1 e;simp only[Option.some_or,Option.some.injEq];constructor
   · rintro rfl;exact⟨by omega,h.2⟩
   · rintro⟨a,b,c⟩
     rcases Nat.lt_trichotomy o i with q|q|q;{have:=c o q;rw[h.2.1]at this;cases this};{exact q};{have:=h.2.2 i q;rw[b]at this;cases this}
  |none=>
   have hn:∀j,j<n->p j=false:=λj hj=>by have:=List.find?_eq_none.1 e j (List.mem_range.2 hj);simpa using this
   simp only[Option.none_or,List.find?_cons,List.find?_nil];cases hp:p n with
   |true=>
    simp only[Option.some.injEq];constructor
    · rintro rfl;exact⟨by omega,hp,hn⟩
    · rintro⟨a,b,c⟩
      by_cases q:i<n;{have:=hn i q;rw[b]at this;cases this};{omega}
   |false=>
    simp only[reduceCtorEq,false_iff]
    rintro⟨a,b,c⟩
    by_cases q:i<n;{have:=hn i q;rw[b]at this;cases this};{have:i=n:=(by omega);subst this;rw[hp]at b;cases b}
theorem bJr{p:Nat->Bool}{n i:Nat}(hi:i<n)(hp:p i=true):∃o,(List.range n).find? p=some o:=by
 (cases e:(List.range n).find? p with|some o=>exact⟨o,rfl⟩|none=>have:=List.find?_eq_none.1 e i (List.mem_range.2 hi);rw[hp]at this;exact absurd rfl this)
section
variable {ws : List Int} {ss : List DSlot}
theorem aRc{f:Int}(h0:0<=f)(h1:f<20)(hm:0<M.many ss f):∃o:Nat,o<20/\(o:Int)<=f/\M.firstIn ws ss f=(o:Int)/\0<M.many ss (o:Int)/\M.page ws o=M.page ws f.toNat/\∀j,j<o->M.alike ws ss f j=false:=by have ef:((f.toNat:Nat):Int)=f:=(by omega);have ha:M.alike ws ss f f.toNat=true:=(by unfold M.alike;rw[ef,dT hm,dT rfl];rfl);obtain⟨o,ho⟩:=bJr (n:=20) (by omega) ha;obtain⟨a,b,c⟩:=uY.1 ho;have hb:=b;unfold M.alike at hb;rw[bA,decide_eq_true_eq,decide_eq_true_eq]at hb;refine⟨o,a,?_,by unfold M.firstIn;rw[ho],hb.1,hb.2,c⟩;by_cases q:f.toNat<o;{have:=c _ q;rw[ha]at this;cases this};{omega}
theorem bCi{f:Int}(h0:0<=f)(h1:f<20):0<=M.firstIn ws ss f/\M.firstIn ws ss f<20:=by unfold M.firstIn;(cases e:(List.range 20).find? (M.alike ws ss f)with|some o=>obtain⟨a,_⟩:=uY.1 e;exact⟨by simp,by simp;omega⟩|none=>exact⟨h0,h1⟩)
end
theorem aDe{ss:List DSlot}{s:DSlot}:(M.aloneS ss s).Frame=s.Frame:=by unfold M.aloneS;cases s.Write&&decide (1<M.many ss s.Frame)<;>rfl
theorem aFw{ws:List Int}{ss:List DSlot}{s:DSlot}(h:s.Frame=-1):M.shareS ws ss s=s:=by unfold M.shareS;rw[dT h];rfl
theorem aCt{ws:List Int}{ss:List DSlot}{s:DSlot}(h:s.Frame≠-1):M.shareS ws ss s=⟨M.firstIn ws ss s.Frame,s.Write,s.Dirty⟩:=by unfold M.shareS;rw[dF h];rfl
theorem aTd{s:DSlot}(h:M.slotOk s=true)(hf:s.Frame=-1):s.Write=false/\s.Dirty=false:=by unfold M.slotOk at h;rw[dT hf,cTq,bA,Bool.not_eq_true',Bool.not_eq_true']at h;exact h
theorem bEp{f:Int}{w d:Bool}(h0:0<=f)(h1:f<20):M.slotOk ⟨f,w,d⟩=true:=by unfold M.slotOk;simp only;rw[dF (by omega),cFq,dT h0,dT h1];rfl
section
variable {h : DHost}
theorem bCh:M.slots ((M.sharedG h).map (M.mapG (M.aloneS (M.slots (M.sharedG h)))))=(M.slots (M.sharedG h)).map (M.aloneS (M.slots (M.sharedG h))):=aUf
theorem bHi{ss tt:List DSlot}{q:Int}:M.many (ss.map (M.aloneS tt)) q=M.many ss q:=by rw[bOj];simp only[aDe];rfl
theorem aKh(hk:HOk h):(M.sharedG h).all M.guestOk=true:=by unfold M.sharedG;refine aRp hk.all λs hs=>?_;have hx:=List.all_eq_true.1 (fV hk.all) s hs;have hr:=dG hx;by_cases e:s.Frame=-1;{rw[aFw e];exact hx};{rw[aCt e];have:=bCi (ws:=h.Words) (ss:=M.slots h.Guests) (f:=s.Frame) (by omega) hr.2;exact bEp this.1 this.2}
theorem aHc(hk:M.hostOk h=true):M.hostShare h=⟨h.Words,(M.sharedG h).map (M.mapG (M.aloneS (M.slots (M.sharedG h))))⟩:=by unfold M.hostShare;rw[hk];rfl
theorem aKl(hk:M.hostOk h=true):M.hostShare h=⟨h.Words,h.Guests.map (M.mapG λs=>M.aloneS (M.slots (M.sharedG h)) (M.shareS h.Words (M.slots h.Guests) s))⟩:=by
 rw[aHc hk];congr 1
 conv=>lhs;arg 2;unfold M.sharedG
 rw[List.map_map];congr 1;funext g;simp only[Function.comp,M.mapG,List.map_map];rfl
theorem aJb(hk:M.hostOk h=true):M.hostOk (M.hostShare h)=true:=by
 have k:=dZ.1 hk;rw[aHc hk,dZ];have hs:=aKh k;refine⟨k.len,k.words,by simp[M.sharedG,k.three],aRp hs λs hs'=>?_,?_⟩
 · have hx:=List.all_eq_true.1 (fV hs) s hs'
   have hr:=dG hx;unfold M.aloneS;cases e:s.Write&&decide (1<M.many (M.slots (M.sharedG h)) s.Frame)with
   |false=>exact hx
   |true=>
    rw[cTq];have:s.Frame≠-1:=λq=>by rw[(aTd hx q).1]at e;cases e
    exact bEp (by omega) hr.2
 {simp only[bCh];unfold M.alone;rw[List.all_eq_true];intro t ht;obtain⟨s,hs',rfl⟩:=List.mem_map.1 ht;rw[bHi,aDe];unfold M.aloneS;by_cases q:M.many (M.slots (M.sharedG h)) s.Frame<=1;{rw[dT q,Bool.or_true]};{rw[dF q,dT (p:=1<M.many (M.slots (M.sharedG h)) s.Frame) (by omega),Bool.and_true];(cases hw:s.Write with|false=>rw[cFq,hw];rfl|true=>rfl)}}
theorem aUw{ws:List Int}{f q a:Nat}(h:M.page ws f=M.page ws q)(ha:a<8):ws.getD (f*8+a) default=ws.getD (q*8+a) default:=by have:=congrArg (λl=>l.getD a default) h;simp only[M.page]at this;rwa[vP ha,vP ha]at this
theorem aVq{s:DSlot}(hs:s∈M.slots h.Guests):0<M.many (M.slots h.Guests) s.Frame:=bQb.2 ⟨s,hs,rfl⟩
theorem aQl(hs:SmallH h)(hk:M.hostOk h=true){k:Nat}(h3:k<3):M.hostView (M.hostShare h) (k:Int)=M.hostView h (k:Int):=by have kk:=dZ.1 hk;have ok:=aJb hk;rw[aKl hk]at ok ⊢;refine bOr hs hk ok (λs hss a ha=>?_) h3;have hx:=List.all_eq_true.1 (fV kk.all) s hss;have hr:=dG hx;rw[aDe];by_cases e:s.Frame=-1;{rw[aFw e]};{rw[aCt e];obtain⟨o,o1,o2,o3,o4,o5,-⟩:=aRc (ws:=h.Words) (ss:=M.slots h.Guests) (f:=s.Frame) (by omega) hr.2 (aVq hss);simp only[o3];rw[if_neg (by omega),if_neg (by omega),iT];exact aUw o5 ha}
theorem aNd(hs:SmallH h):SmallH (M.hostShare h):=by
 (cases hk:M.hostOk h with|false=>unfold M.hostShare;rw[hk];exact⟨by simp,by simp,by simp⟩|true=>rw[aKl hk];exact aUz (ws:=h.Words) (gs:=h.Guests) ⟨hs.words,hs.guests,hs.all⟩)
end
section
variable {h : DHost}
end
theorem aCa {R:Type} {f:DSlot->DSlot} {gs:List DGuest} {k:Nat} (hk:k<gs.length) {step:List DGuest×Int->Option (LO (List DGuest×Int) R)} (fin:List DGuest->R)
 (hs:∀j:Nat,j<(gs.getD k default).Pages.length->step (M.upGs f k j gs,(j:Int))=some (.next (M.upGs f k (j+1) gs,((j+1:Nat):Int))))
 (he:step (M.upGs f k (gs.getD k default).Pages.length gs,((gs.getD k default).Pages.length:Int))=some (.ret (fin (up (M.mapG f) (k+1) gs)))):
 iter step (up (M.mapG f) k gs,0)=some (.ret (fin (up (M.mapG f) (k+1) gs))):=by
 have key:=lY (n:=(gs.getD k default).Pages.length) (step:=step) (λj=>(M.upGs f k j gs,(j:Int))) (λ_=>true) (fin (up (M.mapG f) (k+1) gs)) (fin (up (M.mapG f) (k+1) gs)) (λj hj _=>by rw[hs j hj,cTq]) (λ_=>he);rw[Bool.cond_self]at key;rw[<-bLn hk];exact key
theorem zF {R:Type} {f:DSlot->DSlot} {gs:List DGuest} {step:List DGuest×Int->Option (LO (List DGuest×Int) R)} (fin:List DGuest->R)
 (hs:∀k:Nat,k<gs.length->step (up (M.mapG f) k gs,(k:Int))=some (.next (up (M.mapG f) (k+1) gs,((k+1:Nat):Int))))
 (he:step (gs.map (M.mapG f),(gs.length:Int))=some (.ret (fin (gs.map (M.mapG f))))):
 iter step (gs,0)=some (.ret (fin (gs.map (M.mapG f)))):=by
 have key:=lY (n:=gs.length) (step:=step) (λk=>(up (M.mapG f) k gs,(k:Int))) (λ_=>true) (fin (gs.map (M.mapG f))) (fin (gs.map (M.mapG f))) (λk hk _=>by rw[hs k hk,cTq]) (λ_=>by rw[bJc (Nat.le_refl _)];exact he);rw[Bool.cond_self]at key;have e:up (M.mapG f) 0 gs=gs:=bDr;rw[e]at key;exact key
theorem bCj{a b:List Int}(h:a.length=b.length)(h8:a.length<=1048576):nP a b=some (decide (a=b)):=by
 unfold nP
 have key:=aIo (n:=a.length) (step:=lE a b) (λk=>k) (λi=>decide (a.getD i default=b.getD i default)) (.go ()) (.out false) (λi hi=>by
  simp only[lE,iT];rw[dT (p:=(i:Int)<_) (by omega),cTq,aC ⟨by omega,by omega⟩,aC ⟨by omega,by omega⟩,aF (by omega) (by omega)];cases decide (a.getD i default=b.getD i default)<;>rfl) (by
  simp only[lE];rw[dF (by omega),cFq])
 rw[key]
 have e:(List.range a.length).all (λi=>decide (a.getD i default=b.getD i default))=decide (a=b):=by
  apply dbe;rw[List.all_eq_true,decide_eq_true_eq];constructor;{intro hh;exact pX rfl h.symm λi hi=>of_decide_eq_true (hh i (List.mem_range.2 hi))}
  · rintro rfl i _;exact dT rfl
 rw[e];cases decide (a=b)<;>rfl
theorem aYe{ws:List Int}{ss:List DSlot}{f:Int}(hw:ws.length=160)(hss:ss.all M.slotOk=true)(h0:0<=f)(h1:f<20)(hm:0<M.many ss f):mR ws (M.takers ss) f=some (M.firstIn ws ss f):=by
 have hl:=jV hss;obtain⟨o,o1,o2,o3,o4,o5,o6⟩:=aRc (ws:=ws) h0 h1 hm;unfold mR;have step:∀i:Nat,i<f.toNat->gH ws (M.takers ss) f (i:Int)=some (bif M.alike ws ss f i then .ret (.out (i:Int))else .next ((i:Int)+1)):=λi hi=>by simp only[gH,iT];rw[dT (p:=(i:Int)<f) (by omega),cTq,aC ⟨by omega,by omega⟩,aFs (by omega) (by omega) (by omega),aFs h0 (by omega) (by omega)];show Option.bind (cond (decide ((0:Int)<(M.takers ss).getD i default)) _ _) _=_;rw[iJ hss (by omega)];have e:M.alike ws ss f i=(decide (0<M.many ss (i:Int))&&decide (M.page ws i=M.page ws f.toNat)):=rfl;rw[e];by_cases q:0<M.many ss (i:Int);{rw[dT (p:=(0:Int)<(M.many ss (i:Int):Int)) (by omega),dT q,Bool.true_and];simp only[cTq,oB,iT];rw[bCj (by unfold M.page;rw[qQ (by omega),qQ (by omega)]) (by unfold M.page;rw[qQ (by omega)];omega),oB];(cases decide (M.page ws i=M.page ws f.toNat)with|true=>rfl|false=>simp only[cFq,oB,JO.run,nM];rw[aF (by omega) (by omega)])};{rw[dF (p:=(0:Int)<(M.many ss (i:Int):Int)) (by omega),dF q,Bool.false_and];simp only[cFq,oB,JO.run,nM];rw[aF (by omega) (by omega)]}
 have key:∀n i:Nat,i+n=o->iter (gH ws (M.takers ss) f) (i:Int)=some (.ret (bif decide ((o:Int)<f)then .out (o:Int)else .go ())):=by
  intro n;induction n with
  |zero=>intro i hi;have:i=o:=(by omega);subst this;by_cases q:(i:Int)<f;{rw[dH,step i (by omega),dT q];have:M.alike ws ss f i=true:=(by unfold M.alike;rw[dT o4,dT o5];rfl);rw[this];rfl};{rw[dH,dF q];simp only[gH];rw[dF q];rfl}
  |succ n ih=>intro i hi;rw[dH,step i (by omega),o6 i (by omega)];have:=ih (i+1) (by omega);simpa using this
 have:=key o 0 (by omega);rw[show((0:Nat):Int)=0 from rfl]at this;rw[this,o3];by_cases q:(o:Int)<f;{rw[dT q];rfl};{rw[dF q];simp only[cFq,oB,LO.val,JO.run,vE];rw[show(o:Int)=f by omega]}
theorem bJi{h:DHost}(hs:SmallH h)(hk:HOk h):jR h=some (M.sharedG h):=by
 have h3:=hk.three;have hall:=hk.all;have hss:=fV hall;unfold jR;rw[zX hs.guests hall,oB,uZ hs.guests hs.all hall,oB]
 have key:=zF (f:=M.shareS h.Words (M.slots h.Guests)) (gs:=h.Guests) (step:=gZ h (M.takers (M.slots h.Guests))) (λs=>JO.go s) (λk hk3=>by
  have hpl:=(eR (List.all_eq_true.1 hall _ (cG hk3))).2;simp only[gZ,dT (show(k:Int)<(h.Guests.length:Int) by omega),cTq]
  rw[aC ⟨by omega,by omega⟩,aCa hk3 (λs=>JO.go s) (λj hj=>by
   have hm:=aBl hk3 hj;have hx:=List.all_eq_true.1 hss _ hm;have hr:=dG hx;have hgl:=aAq (f:=M.shareS h.Words (M.slots h.Guests)) (k:=k) (j:=j) (gs:=h.Guests);have hpl2:=xN (f:=M.shareS h.Words (M.slots h.Guests)) (j:=j) hk3;have hsl:=aJs (f:=M.shareS h.Words (M.slots h.Guests)) hk3 hj;simp only[lH,iT];rw[dT (p:=(j:Int)<_) (by omega),cTq,aC ⟨by omega,by omega⟩];by_cases e:((h.Guests.getD k default).Pages.getD j default).Frame=-1;{rw[dT e];simp only[bT,cFq,oB,JO.run,lJ];rw[aF (by omega) (by omega),wU hk3 hj (aFw e)];rfl}
   · rw[dF e,bF,cTq,aC ⟨by omega,by omega⟩,aYe hk.len hss (by omega) hr.2 (aVq hm),oB,aC ⟨by omega,by omega⟩];simp only[oB,JO.run,lJ];rw[aF (by omega) (by omega)];have:=aHa (f:=M.shareS h.Words (M.slots h.Guests)) hk3 hj (s:=M.shareS h.Words (M.slots h.Guests) ((h.Guests.getD k default).Pages.getD j default)) rfl;rw[<-this,aCt e,hsl];rfl) (by
   simp only[lH,iT];rw[dF (by omega),cFq,aGb hk3 (Nat.le_refl _)])]
  simp only[oB,LO.val,JO.run,sB];rw[aF (by omega) (by omega)];rfl) (by
  simp only[gZ];rw[dF (by omega),cFq])
 rw[key];rfl
theorem zE{ss:List DSlot}{s:DSlot}(h:s.Write=false\/M.many ss s.Frame<=1):M.aloneS ss s=s:=by unfold M.aloneS;rcases h with h|h;{rw[h];rfl};{rw[dF (by omega),Bool.and_false];rfl}
theorem aVd{ss:List DSlot}{s:DSlot}(h:1<M.many ss s.Frame):M.aloneS ss s=⟨s.Frame,false,s.Dirty⟩:=by unfold M.aloneS;rw[dT h,Bool.and_true];obtain⟨f,w,d⟩:=s;cases w<;>rfl
theorem aTe{gs:List DGuest}(hl:gs.length=3)(hsm:∀g∈gs,SmallG g)(hall:gs.all M.guestOk=true):lD gs=some (gs.map (M.mapG (M.aloneS (M.slots gs)))):=by
 have hss:=fV hall;have htl:=jV hss;unfold lD;rw[zX (by omega) hall,oB,uZ (by omega) hsm hall,oB]
 have key:=zF (f:=M.aloneS (M.slots gs)) (gs:=gs) (step:=iG gs (M.takers (M.slots gs))) (λs=>JO.go s) (λk hk3=>by
  have hpl:=(eR (List.all_eq_true.1 hall _ (cG hk3))).2;simp only[iG,dT (show(k:Int)<(gs.length:Int) by omega),cTq]
  rw[aC ⟨by omega,by omega⟩,aCa hk3 (λs=>JO.go s) (λj hj=>by
   have hm:=aBl hk3 hj;have hx:=List.all_eq_true.1 hss _ hm;have hr:=dG hx;have hgl:=aAq (f:=M.aloneS (M.slots gs)) (k:=k) (j:=j) (gs:=gs);have hpl2:=xN (f:=M.aloneS (M.slots gs)) (j:=j) hk3;have hsl:=aJs (f:=M.aloneS (M.slots gs)) hk3 hj;simp only[mM,iT];rw[dT (p:=(j:Int)<_) (by omega),cTq,aC ⟨by omega,by omega⟩];cases hw:((gs.getD k default).Pages.getD j default).Write with
   |false=>simp only[cFq,oB,JO.run,iI];rw[aF (by omega) (by omega),wU hk3 hj (zE (.inl hw))];rfl
   |true=>
    have e:((gs.getD k default).Pages.getD j default).Frame≠-1:=λq=>by rw[(aTd hx q).1]at hw;cases hw
    rw[cTq,aC ⟨by omega,by omega⟩];show Option.bind (cond (decide ((1:Int)<(M.takers (M.slots gs)).getD ((gs.getD k default).Pages.getD j default).Frame.toNat default)) _ _) _=_;rw[iJ hss (by omega),show((((gs.getD k default).Pages.getD j default).Frame.toNat:Nat):Int)=((gs.getD k default).Pages.getD j default).Frame by omega];by_cases q:1<M.many (M.slots gs) ((gs.getD k default).Pages.getD j default).Frame;{rw[dT (by omega),cTq,aC ⟨by omega,by omega⟩,aC ⟨by omega,by omega⟩];simp only[oB,JO.run,iI];rw[aF (by omega) (by omega)];have:=aHa (f:=M.aloneS (M.slots gs)) hk3 hj (s:=M.aloneS (M.slots gs) ((gs.getD k default).Pages.getD j default)) rfl;rw[<-this,aVd q,hsl];rfl}
    · rw[dF (by omega),cFq];simp only[oB,JO.run,iI];rw[aF (by omega) (by omega),wU hk3 hj (zE (.inr (by omega)))];rfl) (by
   simp only[mM,iT];rw[dF (by omega),cFq,aGb hk3 (Nat.le_refl _)])]
  simp only[oB,LO.val,JO.run,sY];rw[aF (by omega) (by omega)];rfl) (by
  simp only[iG];rw[dF (by omega),cFq])
 rw[key];rfl
theorem bBp{h:DHost}(hs:SmallH h):nY h=some (M.hostShare h):=by unfold nY;rw[aAy hs,oB];(cases hk:M.hostOk h with|false=>unfold M.hostShare;rw[hk];rfl|true=>have k:=dZ.1 hk;have sm:SmallH ⟨h.Words,M.sharedG h⟩:=aUz (ws:=h.Words) (gs:=h.Guests) ⟨hs.words,hs.guests,hs.all⟩;rw[bT,cFq,iO hs.words,oB,bJi hs k,oB,aTe (by unfold M.sharedG;rw[List.length_map];exact k.three) sm.all (aKh k),oB,aHc hk])
theorem bTa{h:DHost}{a b:Int}(hw:h.Words.length=160)(a0:0<=a)(a1:a<20)(b0:0<=b)(b1:b<20):tJ h a b=some (decide (M.page h.Words a.toNat=M.page h.Words b.toNat)):=by
 unfold tJ;have la:(M.page h.Words a.toNat).length=8:=(by unfold M.page;exact qQ (by omega));have lb:(M.page h.Words b.toNat).length=8:=by unfold M.page;exact qQ (by omega)
 have key:=aIo (n:=8) (step:=nS h a b) (λk=>k) (λi=>decide (h.Words.getD (a.toNat*8+i) default=h.Words.getD (b.toNat*8+i) default)) (.go ()) (.out false) (λi hi=>by
  simp only[nS];have e1:w64 (w64 (a*8)+(i:Int))=a*8+i:=(by rw[aF (z:=a*8) (by omega) (by omega),aF (by omega) (by omega)]);have e2:w64 (w64 (b*8)+(i:Int))=b*8+i:=(by rw[aF (z:=b*8) (by omega) (by omega),aF (by omega) (by omega)]);simp only[e1,e2,show(a*8+(i:Int)).toNat=a.toNat*8+i by omega,show(b*8+(i:Int)).toNat=b.toNat*8+i by omega];rw[dT (p:=(i:Int)<8) (by omega),cTq,aC ⟨by omega,by omega⟩,aC ⟨by omega,by omega⟩,aF (by omega) (by omega)];cases decide (h.Words.getD (a.toNat*8+i) default=h.Words.getD (b.toNat*8+i) default)<;>rfl) (by
  simp only[nS];rfl)
 rw[key];have e:(List.range 8).all (λi=>decide (h.Words.getD (a.toNat*8+i) default=h.Words.getD (b.toNat*8+i) default))=decide (M.page h.Words a.toNat=M.page h.Words b.toNat):=(by apply dbe;rw[List.all_eq_true,decide_eq_true_eq];constructor;{intro hh;refine pX la lb λi hi=>?_;unfold M.page;rw[vP hi,vP hi];exact of_decide_eq_true (hh i (List.mem_range.2 hi))};{intro hp i hi;exact dT (aUw hp (List.mem_range.1 hi))});rw[e];cases decide (M.page h.Words a.toNat=M.page h.Words b.toNat)<;>rfl
def pJ(ws:List Int)(ss:List DSlot)(f:Int)(m:Nat):Int:=match (List.range 20).find? (λo=>decide (m<=o)&&M.alike ws ss f o)with
 |some o=>(o:Int)
 |none=>f
section
variable {ws : List Int} {ss : List DSlot} {f : Int}
theorem bOk:pJ ws ss f 0=M.firstIn ws ss f:=by unfold pJ M.firstIn;have:(λo=>decide (0<=o)&&M.alike ws ss f o)=M.alike ws ss f:=(by funext o;rw[dT (Nat.zero_le o),Bool.true_and]);rw[this];try rfl
theorem bRf:pJ ws ss f 20=f:=by
 unfold pJ;cases e:(List.range 20).find? (λo=>decide (20<=o)&&M.alike ws ss f o)with
 |none=>rfl
 |some o=>obtain⟨a,b,-⟩:=uY.1 e;rw[bA,decide_eq_true_eq]at b;omega
theorem bRh{m:Nat}(h:0<=f):0<=pJ ws ss f m:=by unfold pJ;split<;>omega
theorem bMy{m:Nat}(hm:m<20):pJ ws ss f m=bif M.alike ws ss f m then(m:Int)else pJ ws ss f (m+1):=by
 (cases ha:M.alike ws ss f m with|true=>have:(List.range 20).find? (λo=>decide (m<=o)&&M.alike ws ss f o)=some m:=uY.2 ⟨hm,by rw[ha,dT (Nat.le_refl m)];rfl,λj hj=>by rw[dF (by omega),Bool.false_and]⟩;unfold pJ;rw[this];rfl|false=>unfold pJ;have:(λo=>decide (m<=o)&&M.alike ws ss f o)=(λo=>decide (m+1<=o)&&M.alike ws ss f o):=(by funext o;by_cases e:o=m;{subst e;rw[ha,Bool.and_false,Bool.and_false]};{congr 1;rw[decide_eq_decide];omega});rw[this];rfl)
end
theorem bLb{h:DHost}{k j:Nat}{s11 s13:List DGuest×Int}(e1:s11.2=(k:Int))(e2:s13.2=(j:Int))(hk:HOk h)(hk3:k<h.Guests.length)(hj:j<(h.Guests.getD k default).Pages.length)(h0:0<=((h.Guests.getD k default).Pages.getD j default).Frame)(h1:((h.Guests.getD k default).Pages.getD j default).Frame<20):
 iter (dQ h (M.takers (M.slots h.Guests)) s11 s13) (((h.Guests.getD k default).Pages.getD j default).Frame,19)=some (.ret (.go (M.firstIn h.Words (M.slots h.Guests) ((h.Guests.getD k default).Pages.getD j default).Frame))):=by
 have hss:=fV hk.all;have hl:=jV hss;have hw:=hk.len;generalize hf:((h.Guests.getD k default).Pages.getD j default).Frame=f at h0 h1
 have key:∀n:Nat,n<=20->iter (dQ h (M.takers (M.slots h.Guests)) s11 s13) (pJ h.Words (M.slots h.Guests) f n,(n:Int)-1)=some (.ret (.go (pJ h.Words (M.slots h.Guests) f 0))):=by
  intro n;induction n with
  |zero=>intro _;rw[dH];rfl
  |succ n ih=>intro hn;have hp:=bRh (ws:=h.Words) (ss:=M.slots h.Guests) (m:=n+1) h0;have st:dQ h (M.takers (M.slots h.Guests)) s11 s13 (pJ h.Words (M.slots h.Guests) f (n+1),(n:Int))=some (.next (pJ h.Words (M.slots h.Guests) f n,(n:Int)-1)):=(by simp only[dQ,e1,e2,iT,hf];rw[dT (p:=(0:Int)<=(n:Int)) (by omega),cTq,dT hp,cTq,aC ⟨by omega,by omega⟩,bMy (m:=n) (by omega)];have ea:M.alike h.Words (M.slots h.Guests) f n=(decide (0<M.many (M.slots h.Guests) (n:Int))&&decide (M.page h.Words n=M.page h.Words f.toNat)):=rfl;rw[ea];by_cases q:0<M.many (M.slots h.Guests) (n:Int);{rw[dT (p:=(0:Int)<(M.takers (M.slots h.Guests)).getD n default) (by rw[iJ hss (by omega)];omega),cTq,aC ⟨by omega,by omega⟩,aC ⟨by omega,by omega⟩,bTa hw (by omega) (by omega) h0 h1,oB,dT q,Bool.true_and,iT];(cases decide (M.page h.Words n=M.page h.Words f.toNat)with|true=>simp only[cTq,oB,JO.run,kB];rw[aF (by omega) (by omega)]|false=>simp only[cFq,oB,JO.run,kB];rw[aF (by omega) (by omega)])};{rw[dF (p:=(0:Int)<(M.takers (M.slots h.Guests)).getD n default) (by rw[iJ hss (by omega)];omega),cFq,dF q,Bool.false_and];simp only[cFq,oB,JO.run,kB];rw[aF (by omega) (by omega)]});rw[show((n+1:Nat):Int)-1=(n:Int) by omega,dH,st];exact ih (by omega)
 have:=key 20 (Nat.le_refl _);rw[bRf,bOk]at this;exact this
theorem bCa{h:DHost}(hs:SmallH h):nV h=some (M.hostShare h):=by
 unfold nV;rw[aFi hs,oB];cases hok:M.hostOk h with
 |false=>unfold M.hostShare;rw[hok];rfl
 |true=>
  have hk:=dZ.1 hok;have h3:=hk.three;have hall:=hk.all;have hss:=fV hall;have gk:=aKh hk;have gss:=fV gk;have gtl:=jV gss;have g3:(M.sharedG h).length=3:=(by unfold M.sharedG;rw[List.length_map];exact h3);rw[bT,cFq,bJq hs hall,oB,bKb hs hk,oB]
  have key:=zF (f:=M.shareS h.Words (M.slots h.Guests)) (gs:=h.Guests) (step:=kA h (M.takers (M.slots h.Guests))) (λs=>JO.go s) (λk hk3=>by
   have hpl:=(eR (List.all_eq_true.1 hall _ (cG hk3))).2;simp only[kA,dT (show(k:Int)<3 by omega),cTq]
   rw[aCa hk3 (λs=>JO.go s) (λj hj=>by
    have hm:=aBl hk3 hj;have hx:=List.all_eq_true.1 hss _ hm;have hr:=dG hx;have hgl:=aAq (f:=M.shareS h.Words (M.slots h.Guests)) (k:=k) (j:=j) (gs:=h.Guests);have hpl2:=xN (f:=M.shareS h.Words (M.slots h.Guests)) (j:=j) hk3;have put:=aHa (f:=M.shareS h.Words (M.slots h.Guests)) hk3 hj (s:=M.shareS h.Words (M.slots h.Guests) ((h.Guests.getD k default).Pages.getD j default)) rfl;simp only[oE,iT];rw[aC ⟨by omega,by omega⟩,dT (p:=(j:Int)<_) (by omega),cTq,aC ⟨by omega,by omega⟩,aC ⟨by omega,by omega⟩];by_cases e:((h.Guests.getD k default).Pages.getD j default).Frame=-1
    · have he:iter (dQ h (M.takers (M.slots h.Guests)) (up (M.mapG (M.shareS h.Words (M.slots h.Guests))) k h.Guests,(k:Int)) (M.upGs (M.shareS h.Words (M.slots h.Guests)) k j h.Guests,(j:Int))) (((h.Guests.getD k default).Pages.getD j default).Frame,19)=some (.ret (.go ((h.Guests.getD k default).Pages.getD j default).Frame)):=by
       rw[dH];simp only[dQ];rw[dT (p:=(0:Int)<=19) (by omega),cTq,dF (by omega),cFq]
      rw[he];simp only[oB,LO.val,JO.run,oF,gG,iT];rw[aC ⟨by omega,by omega⟩,aC ⟨by omega,by omega⟩];simp only[oB,JO.run,gG];rw[aF (by omega) (by omega),<-put,aFw e];rfl
    · rw[bLb (s11:=(_,(k:Int))) (s13:=(_,(j:Int))) rfl rfl hk hk3 hj (by omega) hr.2];simp only[oB,LO.val,JO.run,oF,gG,iT];rw[aC ⟨by omega,by omega⟩,aC ⟨by omega,by omega⟩];simp only[oB,JO.run,gG];rw[aF (by omega) (by omega),<-put,aCt e];rfl) (by
    simp only[oE,iT];rw[aC ⟨by omega,by omega⟩,dF (by omega),cFq,aGb hk3 (Nat.le_refl _)])]
   simp only[oB,LO.val,JO.run,uK];rw[aF (by omega) (by omega)];rfl) (by
   simp only[kA];rw[dF (by omega),cFq])
  rw[key];simp only[oB,LO.val,JO.run,vL];show Option.bind (fM ⟨h.Words,M.sharedG h⟩) _=_;rw[bCt g3 gk,oB];show Option.bind (Option.bind (iter (hG (M.takers (M.slots (M.sharedG h)))) (M.sharedG h,0)) LO.val) _=_
  have key2:=zF (f:=M.aloneS (M.slots (M.sharedG h))) (gs:=M.sharedG h) (step:=hG (M.takers (M.slots (M.sharedG h)))) (λs=>JO.go s) (λk hk3=>by
   have hpl:=(eR (List.all_eq_true.1 gk _ (cG hk3))).2;simp only[hG,dT (show(k:Int)<3 by omega),cTq]
   rw[aCa hk3 (λs=>JO.go s) (λj hj=>by
    have hm:=aBl hk3 hj;have hx:=List.all_eq_true.1 gss _ hm;have hr:=dG hx;have hgl:=aAq (f:=M.aloneS (M.slots (M.sharedG h))) (k:=k) (j:=j) (gs:=M.sharedG h);have hpl2:=xN (f:=M.aloneS (M.slots (M.sharedG h))) (j:=j) hk3;have hsl:=aJs (f:=M.aloneS (M.slots (M.sharedG h))) hk3 hj;have put:=aHa (f:=M.aloneS (M.slots (M.sharedG h))) hk3 hj (s:=M.aloneS (M.slots (M.sharedG h)) (((M.sharedG h).getD k default).Pages.getD j default)) rfl;simp only[oX,iT,hsl];rw[aC ⟨by omega,by omega⟩,dT (p:=(j:Int)<_) (by omega),cTq,aC ⟨by omega,by omega⟩,aC ⟨by omega,by omega⟩];by_cases e:(((M.sharedG h).getD k default).Pages.getD j default).Frame=-1;{rw[dF (by omega),cFq];simp only[oB,JO.run,jT];rw[aF (by omega) (by omega),wU hk3 hj (zE (.inl (aTd hx e).1))];rfl}
    · rw[dT (by omega),cTq,aC ⟨by omega,by omega⟩]
      have ef:(((((M.sharedG h).getD k default).Pages.getD j default).Frame.toNat:Nat):Int)=(((M.sharedG h).getD k default).Pages.getD j default).Frame:=(by omega);by_cases q:1<M.many (M.slots (M.sharedG h)) (((M.sharedG h).getD k default).Pages.getD j default).Frame;{rw[dT (p:=(1:Int)<(M.takers (M.slots (M.sharedG h))).getD (((M.sharedG h).getD k default).Pages.getD j default).Frame.toNat default) (by rw[iJ gss (by omega),ef];omega),cTq,aC ⟨by omega,by omega⟩,aC ⟨by omega,by omega⟩];simp only[oB,JO.run,jT];rw[aF (by omega) (by omega),<-put,aVd q];rfl}
      · rw[dF (p:=(1:Int)<(M.takers (M.slots (M.sharedG h))).getD (((M.sharedG h).getD k default).Pages.getD j default).Frame.toNat default) (by rw[iJ gss (by omega),ef];omega),cFq];simp only[oB,JO.run,jT];rw[aF (by omega) (by omega),wU hk3 hj (zE (.inr (by omega)))];rfl) (by
    simp only[oX,iT];have hgl:=aAq (f:=M.aloneS (M.slots (M.sharedG h))) (k:=k) (j:=((M.sharedG h).getD k default).Pages.length) (gs:=M.sharedG h);have hpl2:=xN (f:=M.aloneS (M.slots (M.sharedG h))) (j:=((M.sharedG h).getD k default).Pages.length) hk3;rw[aC ⟨by omega,by omega⟩,dF (by omega),cFq,aGb hk3 (Nat.le_refl _)])]
   simp only[oB,LO.val,JO.run,vK];rw[aF (by omega) (by omega)];rfl) (by
   simp only[hG];rw[dF (by omega),cFq])
  rw[key2,aHc hok];rfl
theorem bHs{m q:Int}(hm:m<=900000)(h0:0<=m)(hq:q<=100)(s:List Int×Int×List Int×Int)(hs:0<=s.2.2.2/\s.2.2.2<=q/\Rdr (m+2*(q-s.2.2.2)) ⟨s.1,s.2.1⟩/\(s.2.2.1.length:Int)+s.2.2.2<=q):
 Ex (mG s) (λo=>(∃s',o= .next s'/\(0<=s'.2.2.2/\s'.2.2.2<=q/\Rdr (m+2*(q-s'.2.2.2)) ⟨s'.1,s'.2.1⟩/\(s'.2.2.1.length:Int)+s'.2.2.2<=q)/\s'.2.2.2.toNat<s.2.2.2.toNat)\/∃t,o= .ret (.go t)/\(Rdr (m+2*q) ⟨t.2.1,t.2.2⟩/\(t.1.length:Int)<=q)):=by
 obtain⟨b,p,ts,k⟩:=s;obtain⟨k0,k1,R,hl⟩:=hs;simp only at k0 k1 R hl;unfold mG;refine Ex.cond (λhk=>?_) λhk=>?_
 · have hk:0<k:=of_decide_eq_true hk
   refine Ex.bind (aW R (by omega) (by omega)) λv4 ⟨R4,a4,b4⟩=>?_;refine Ex.bind (aW R4 (by omega) (by omega)) λv5 ⟨R5,a5,b5⟩=>?_;refine Ex.grd ⟨by simp only[List.length_cons,List.length_nil];omega,by simp only[List.length_cons,List.length_nil];omega⟩ (Ex.ret (.inl ⟨_,rfl,⟨?_,?_,?_,?_⟩,?_⟩));all_goals simp only[aF (z:=k-1) (by omega) (by omega),List.length_append,List.length_cons,List.length_nil]
   {omega};{omega};{exact R5.up (by omega)};{omega};{omega}
 {have hk:¬0<k:=of_decide_eq_false hk;exact Ex.ret (.inr ⟨_,rfl,R.up (by omega),by show(ts.length:Int)<=q;omega⟩)}
theorem bRj{m n:Int}{r:Dl20Rd}(R:Rdr m r)(h0:0<=m)(hm:m<=800000)(hn:0<=n)(hn2:n<=100):Ex (lT r n) (λv=>Rdr (m+300) v.1/\(v.2.length:Int)<=n):=by unfold lT;rw[aF (z:=n+1) (by omega) (by omega)];refine Ex.join (P:=λt:List Int×List Int×Int=>Rdr (m+300) ⟨t.2.1,t.2.2⟩/\(t.1.length:Int)<=n) ?_ λs ⟨R1,hl⟩=>?_;{refine Ex.bind (aW R (by omega) (by omega)) λv2 ⟨R2,a2,b2⟩=>?_;have key:=Ex.loopv (step:=mG) (λs:List Int×Int×List Int×Int=>0<=s.2.2.2/\s.2.2.2<=n/\Rdr (m+1+2*(n-s.2.2.2)) ⟨s.1,s.2.1⟩/\(s.2.2.1.length:Int)+s.2.2.2<=n) (λs=>s.2.2.2.toNat) (λt:List Int×List Int×Int=>Rdr (m+1+2*n) ⟨t.2.1,t.2.2⟩/\(t.1.length:Int)<=n) (s:=(v2.1.b,v2.1.p,([]:List Int),v2.2)) ⟨a2,by show v2.2<=n;omega,R2.up (by show m+1<=m+1+2*(n-v2.2);omega),by simp;omega⟩ (bHs (by omega) (by omega) hn2);exact key.mono λo ⟨t,e,h1,h2⟩=>⟨t,e,h1.up (by omega),h2⟩};{unfold xL;exact Ex.ret ⟨R1,hl⟩}
theorem bPd{xs:List Int}(hx:∀x∈xs,0<=x/\x<=255):Ex (eT xs) (λv=>SmallH v.1/\v.2.length<=30):=by unfold eT;refine Ex.bind (bUs hx) λr R=>?_;refine Ex.bind (bWe R (by omega) (by omega)) λv ⟨R2,hs⟩=>?_;refine Ex.bind (bRj R2 (by omega) (by omega) (by omega) (by omega)) λv3 ⟨_,hl⟩=>Ex.ret ⟨hs,?_⟩;show v3.2.length<=30;omega
theorem bCb{h:DHost}(hs:SmallH h)(hk:M.hostOk h=true){k:Nat}(h3:k<3):M.there (M.hostShare h) (k:Int)=M.there h (k:Int):=by rw[<-uS,aQl hs hk h3,uS]
theorem aHl{h:DHost}(hk:M.hostOk h=true){ts:List Int}{k:Nat}(h3:k<3):M.lv (M.hostShare h) ts k=M.lv h ts k:=by have g3:=(dZ.1 hk).three;have:((M.hostShare h).Guests.getD k default).Live=(h.Guests.getD k default).Live:=(by rw[aKl hk];show((h.Guests.map (M.mapG _)).getD k default).Live=_;rw[aWu (by omega)];rfl);unfold M.lv;rw[this]
theorem bJy{h:DHost}(hk:M.hostOk h=true){ts:List Int}:M.sumLv (M.hostShare h) ts 3=M.sumLv h ts 3:=by simp only[M.sumLv,aHl hk (ts:=ts) (k:=0) (by omega),aHl hk (ts:=ts) (k:=1) (by omega),aHl hk (ts:=ts) (k:=2) (by omega)]
theorem bHh{h:DHost}{ts:List Int}(hs:SmallH h)(hk:M.hostOk h=true)(hl:ts.length<=200)(h1:((M.sumLv h ts 3:Nat):Int)<=(M.hostRun h ts).2)(h2:((M.sumLv h ts 3:Nat):Int)<=(M.hostRun (M.hostShare h) ts).2){k:Nat}(h3:k<3):
 M.hostView (M.hostRun (M.hostShare h) ts).1 (k:Int)=M.hostView (M.hostRun h ts).1 (k:Int):=by
 obtain⟨c,r⟩:=aZa (ts:=ts) hs hk hl;obtain⟨d,q⟩:=aZa (ts:=ts) (aNd hs) (aJb hk) hl;have hv:=aQl hs hk h3;have ht:=bCb hs hk h3;(cases t:M.there h (k:Int)with|false=>rw[r.gone k h3 t,q.gone k h3 (ht.trans t),hv]|true=>have e1:=aZe r h1 h3;have e2:=aZe q (by rw[bJy hk];exact h2) h3;rw[r.views k h3 t,q.views k h3 (ht.trans t),hv,e1,e2,aHl hk h3])
theorem aVt{xs:List Int}(hx:∀x∈xs,0<=x/\x<=255):Ex (iU xs) (λb=>b=true):=by
 have al:Ex (Option.bind kO λv=>some v) (λb=>b=true):=Ex.bind (bRt (Q:=λb=>b=true) rfl) λb hb=>Ex.ret hb;unfold iU;refine Ex.cond (λ_=>Ex.ret rfl) λ_=>?_;refine Ex.bind (bPd hx) λv ⟨hs,hl⟩=>?_;obtain⟨h,ts⟩:=v;have hs:SmallH h:=hs;have hl:ts.length<=30:=hl;have hz:=aHy (ts:=ts) hs;have hy:=aNd hs;have hz2:=aHy (ts:=ts) hy;simp only[bBp hs,bCa hs,aVy hy,aUi hs,aUi hy,oB,bT,cFq];cases hk:M.hostOk h with
 |false=>have e1:M.hostRun h ts=(M.zeroH,0):=(by unfold M.hostRun;rw[hk];rfl);have e2:M.hostShare h=M.zeroH:=(by unfold M.hostShare;rw[hk];rfl);have e3:M.hostOk M.zeroH=false:=rfl;have e4:M.hostRun (M.hostShare h) ts=(M.zeroH,0):=(by rw[e2];unfold M.hostRun;rw[e3];rfl);have key:iter (dE (h,ts)) (0,0)=some (.ret (.go 0)):=(by rw[dH];simp only[dE,aAy hs,hk];rfl);rw[key,e1,e4];simp only[oB,LO.val,JO.run,nE];rw[dF (by omega),cFq,cFq,aRd uQ uQ λ_ _ _=>rfl,oB,cTq];exact al
 |true=>
  have k:=dZ.1 hk;have hsum:=aPg (h:=h) (ts:=ts) 3
  have key:=lY (n:=3) (step:=dE (h,ts)) (λi=>((M.sumLv h ts i:Int),(i:Int))) (λ_=>true) (JO.go (M.sumLv h ts 3:Int)) (.out false) (λi hi _=>by
   simp only[dE,iT,aAy hs,hk,oB];rw[dT (p:=(i:Int)<3) (by omega),cTq,cTq,bPy k (by omega) hi];simp only[sU,cTq];rw[aF (by omega) (by omega)];rfl) (λ_=>by
   simp only[dE];rfl)
  rw[show(List.range 3).all (λ_=>true)=true by simp,cTq]at key;have key:iter (dE (h,ts)) (0,0)=_:=key;rw[key];simp only[oB,LO.val,JO.run,nE];refine Ex.cond (λ_=>al) λn1=>Ex.cond (λ_=>al) λn2=>?_;have n1:=of_decide_eq_false n1;have n2:=of_decide_eq_false n2;rw[aRd hz hz2 λk h3 _=>bHh hs hk (by omega) (by omega) (by omega) h3,oB,cTq];exact al
theorem aWa{xs:List Int}(hx:∀x∈xs,0<=x/\x<=255):iU xs=some true:=by obtain⟨_,h,rfl⟩:=aVt hx;exact h
end Go.Proofs.YtkjabgefacfpfaaGreat
