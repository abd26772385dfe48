/- The plain functions: what they answer. -/
import Derived.Test.YtobbmlnagjhofaaGreatPUJ
import Derived.Test.YtobbmlnagjhofaaGreatWFCR1
import Derived.Test.YtobbmlnagjhofaaGreatZY
namespace Go.Proofs.YtobbmlnagjhofaaGreat
set_option linter.all false
namespace M
def entry(ws:List Int)(x:DGuest)(p:Nat):DEntry:=if x.C.Root=-1 then⟨true,true,true,(p:Int)⟩else dec (word ws x.Pages (x.C.Root.toNat*8+p))
def shadeFor(x:DGuest)(e:DEntry):DShade:=⟨e.There,e.Write,e.User,e.Page,(x.Pages.getD e.Page.toNat default).Frame,(x.Pages.getD e.Page.toNat default).Write⟩
def shade(ws:List Int)(x:DGuest)(p:Nat):DShade:=shadeFor x (entry ws x p)
def pageWords(ws:List Int)(s:DSlot):List Int:=bif decide (s.Frame=-1)then List.replicate 8 0 else page ws s.Frame.toNat
end M
theorem aNk{c:DCore}(h:M.coreOk c=true):-1<=c.Root/\c.Root<=7:=by unfold M.coreOk at h;simp only[bA]at h;exact M.inR_iff.1 h.1.1.2
section
variable {h : DHost} {g : Int} {x : DGuest}
theorem bU(l:Live h g x){p:Nat}(hp:p<8):-1<=(x.Pages.getD p default).Frame/\(x.Pages.getD p default).Frame<20:=aCo l.slots (by rw[l.pages];exact hp)
theorem bKb(l:Live h g x){a:Nat}(ha:a<64):0<=M.word h.Words x.Pages a/\M.word h.Words x.Pages a<=4095:=by have:=bU l (p:=a/8) (by omega);have:=l.ok.len;unfold M.word;split;{omega};{exact iK l.ok.words (by omega)}
theorem aGo{ws:List Int}{s:DSlot}(hw:ws.length=160)(hs:-1<=s.Frame/\s.Frame<20):dK ws s=some (M.pageWords ws s):=by unfold dK M.pageWords;by_cases e:s.Frame=-1;{rw[dT e];rfl};{rw[dF e,cFq,cFq,aPs (by omega) (by omega) (by omega)];rfl}
theorem pZ{ws:List Int}{s:DSlot}(hw:ws.length=160)(hs:-1<=s.Frame/\s.Frame<20):(M.pageWords ws s).length=8:=by unfold M.pageWords;by_cases e:s.Frame=-1;{rw[dT e,cTq,List.length_replicate]};{rw[dF e,cFq];exact aHe (by omega)}
theorem pV{ws:List Int}{s:DSlot}(hs:-1<=s.Frame/\s.Frame<20){a:Nat}(ha:a<8):(M.pageWords ws s).getD a default=if s.Frame<0 then 0 else ws.getD (s.Frame.toNat*8+a) default:=by unfold M.pageWords;by_cases e:s.Frame=-1;{rw[dT e,cTq,if_pos (by omega),aW (by rw[List.length_replicate];exact ha),List.getElem_replicate]};{rw[dF e,cFq,if_neg (by omega)];exact aQi ha}
theorem bJv{ws:List Int}{ps:List DSlot}{r p:Nat}(hp:p<8):M.word ws ps (r*8+p)=if(ps.getD r default).Frame<0 then 0 else ws.getD ((ps.getD r default).Frame.toNat*8+p) default:=by unfold M.word;rw[show(r*8+p)/8=r by omega,show(r*8+p)%8=p by omega]
theorem aBq(l:Live h g x){p:Nat}(hp:p<8):0<=(M.entry h.Words x p).Page/\(M.entry h.Words x p).Page<=7:=by unfold M.entry;split;{simp only;omega};{exact aIb _}
theorem bDl(l:Live h g x){p:Nat}(hp:p<8):oN h g (p:Int)=some (M.entry h.Words x p):=by have:=l.ok.three;have:=l.lo;have:=l.hi;have hpl:=l.pages;have hr:=aNk l.core;unfold oN M.entry;rw[aB ⟨l.lo,by omega⟩,l.at_];by_cases e:x.C.Root=-1;{rw[dT e,if_pos e];rfl};{have hsl:=bU l (p:=x.C.Root.toNat) (by omega);rw[dF e,if_neg e,cFq,aB ⟨by omega,by omega⟩];show Option.bind (dK h.Words (x.Pages.getD x.C.Root.toNat default)) _=_;rw[aGo l.ok.len hsl,oB,aB ⟨by omega,by rw[pZ l.ok.len hsl];omega⟩,iT,pV hsl hp];have hw:=bKb l (a:=x.C.Root.toNat*8+p) (by omega);rw[bJv hp]at hw ⊢;rw[aGx hw.1 hw.2];rfl}
theorem bCj(l:Live h g x){p:Nat}(hp:p<8):oI h g (p:Int)=some (M.shade h.Words x p):=by have:=l.ok.three;have:=l.lo;have:=l.hi;have hpl:=l.pages;have he:=aBq l hp;unfold oI;rw[bDl l hp,oB,aB ⟨l.lo,by omega⟩,l.at_,aB ⟨by omega,by omega⟩];rfl
end
section
variable {h : DHost} {g : Int} {x : DGuest}
end
namespace M
def zeroH:DHost:=⟨[],[]⟩
def inFrame(h:DHost)(g page frame:Int):DHost:=⟨over h.Words (frame.toNat*8) 8 (pageWords h.Words ((h.Guests.getD g.toNat default).Pages.getD page.toNat default)),h.Guests.set g.toNat ⟨(h.Guests.getD g.toNat default).Live,(h.Guests.getD g.toNat default).C,(h.Guests.getD g.toNat default).Pages.set page.toNat ⟨frame,true,((h.Guests.getD g.toNat default).Pages.getD page.toNat default).Dirty⟩,(h.Guests.getD g.toNat default).In,(h.Guests.getD g.toNat default).Out⟩⟩
def inFree(h:DHost)(g page:Int):DHost×Bool:=bif decide ((free (slots h.Guests)).length=0)then(zeroH,false)else(inFrame h g page ((free (slots h.Guests)).getD 0 default),true)
noncomputable def hostFill (h:DHost)(g page:Int):DHost×Bool:=bif there h g&&inR 0 7 page then
 (bif decide (((h.Guests.getD g.toNat default).Pages.getD page.toNat default).Frame=-1)then inFree h g page else(h,true))
 else(zeroH,false)
noncomputable def hostCopy (h:DHost)(g page:Int):DHost×Bool:=bif there h g&&inR 0 7 page then
 (bif decide (((h.Guests.getD g.toNat default).Pages.getD page.toNat default).Frame=-1)then(zeroH,false)
  else bif decide (many (slots h.Guests) ((h.Guests.getD g.toNat default).Pages.getD page.toNat default).Frame=1)then(inFrame h g page ((h.Guests.getD g.toNat default).Pages.getD page.toNat default).Frame,true)
  else inFree h g page)
 else(zeroH,false)
end M
theorem aWc{ss:List DSlot}{i:Nat}(hi:i<(M.free ss).length):0<=(M.free ss).getD i default/\(M.free ss).getD i default<20:=by have hm:=cB hi;rw[nT]at hm;obtain⟨j,hj,e⟩:=List.mem_map.1 hm;have:=(List.mem_filter.1 hj).1;rw[List.mem_range]at this;rw[nT,<-e];omega
section
variable {h : DHost} {g : Int} {x : DGuest}
theorem aNt(hs:SmallH h)(l:Live h g x){p f:Int}(p0:0<=p)(p1:p<=7)(f0:0<=f)(f1:f<20):fS h g p f=some (M.inFrame h g p f):=by have:=l.ok.three;have:=l.lo;have:=l.hi;have hpl:=l.pages;have hlw:=l.ok.len;have hsl:=bU l (p:=p.toNat) (by omega);unfold fS;rw[hG hs l.ok,oB];simp only[l.at_];rw[aB ⟨l.lo,by omega⟩,aB ⟨p0,by omega⟩,aTy f0 (by omega) (by omega),oB,aB rfl,aB (by simp only[];omega)];show Option.bind (dK h.Words (x.Pages.getD p.toNat default)) _=_;rw[aGo hlw hsl,oB,aB ⟨l.lo,by omega⟩,aB ⟨p0,by omega⟩];unfold M.inFrame;rw[l.at_]
theorem aPj(hs:SmallH h)(l:Live h g x){p:Int}(p0:0<=p)(p1:p<=7):gN h g p=some (M.inFree h g p):=by unfold gN M.inFree;rw[aSk hs.guests l.ok.all,oB];by_cases e:(M.free (M.slots h.Guests)).length=0;{rw[dT e,dT (by omega)];rfl};{have hf:=aWc (ss:=M.slots h.Guests) (i:=0) (by omega);rw[dF e,dF (by omega),cFq,cFq,aB ⟨by omega,by omega⟩,aNt hs l p0 p1 hf.1 hf.2];rfl}
end
theorem aYg{h:DHost}{g p:Int}(hs:SmallH h):mR h g p=some (M.hostFill h g p):=by unfold mR M.hostFill;rw[rS hs,oB];(cases ht:M.there h g with|false=>rfl|true=>have l:=dC hs ht;generalize hx:h.Guests.getD g.toNat default=x at l;have:=l.ok.three;have:=l.lo;have:=l.hi;have hpl:=l.pages;rw[bT,cFq,aAg,oB,Bool.true_and];(cases hp:M.inR 0 7 p with|false=>rfl|true=>obtain⟨p0,p1⟩:=M.inR_iff.1 hp;rw[bT,cFq,cTq,aB ⟨l.lo,by omega⟩,aB ⟨p0,by omega⟩];(cases decide ((x.Pages.getD p.toNat default).Frame=-1)with|false=>rw[bF,cTq,hG hs l.ok];rfl|true=>rw[bT,cFq,aPj hs l p0 p1];rfl)))
theorem aYw{h:DHost}{g p:Int}(hs:SmallH h):mK h g p=some (M.hostCopy h g p):=by
 unfold mK M.hostCopy;rw[rS hs,oB];cases ht:M.there h g with
 |false=>rfl
 |true=>
  have l:=dC hs ht;generalize hx:h.Guests.getD g.toNat default=x at l;have:=l.ok.three;have:=l.lo;have:=l.hi;have hpl:=l.pages;rw[bT,cFq,aAg,oB,Bool.true_and];cases hp:M.inR 0 7 p with
  |false=>rfl
  |true=>
   obtain⟨p0,p1⟩:=M.inR_iff.1 hp;have hsl:=bU l (p:=p.toNat) (by omega);have hss:=uR l.ok.all;have hl2:=rN hss;rw[bT,cFq,cTq,aB ⟨l.lo,by omega⟩,aB ⟨p0,by omega⟩];by_cases e:(x.Pages.getD p.toNat default).Frame=-1;{rw[dT e];rfl}
   · have e0:decide ((M.takers (M.slots h.Guests)).getD (x.Pages.getD p.toNat default).Frame.toNat default=1)=decide (M.many (M.slots h.Guests) (x.Pages.getD p.toNat default).Frame=1):=by
      rw[decide_eq_decide,wB hss (by omega),show(((x.Pages.getD p.toNat default).Frame.toNat:Nat):Int)=(x.Pages.getD p.toNat default).Frame by omega];omega
     rw[dF e,cFq,cFq,aIt hs.guests l.ok.all,oB,aB ⟨by omega,by omega⟩,e0];(cases decide (M.many (M.slots h.Guests) (x.Pages.getD p.toNat default).Frame=1)with|true=>rw[cTq,cTq,aNt hs l p0 p1 (by omega) (by omega)];rfl|false=>rw[cFq,cFq,aPj hs l p0 p1];rfl)
section
variable {ws : List Int}
end
theorem aNu{h:DHost}{g:Int}{x:DGuest}(l:Live h g x){p:Nat}(hp:p<8):1<=M.many (M.slots h.Guests) (x.Pages.getD p default).Frame:=by have:=l.ok.three;have:=l.lo;have:=l.hi;have hpl:=l.pages;unfold M.many;refine List.countP_pos_iff.2 ⟨x.Pages.getD p default,?_,by simp⟩;refine List.mem_flatMap.2 ⟨x,?_,cB (by omega)⟩;rw[<-l.at_];exact cB (by omega)
theorem aNp{h:DHost}{g:Int}{x:DGuest}(l:Live h g x){p:Nat}(hp:p<8):x.Pages.getD p default∈M.slots h.Guests:=by have:=l.ok.three;have:=l.lo;have:=l.hi;have hpl:=l.pages;refine List.mem_flatMap.2 ⟨x,?_,cB (by omega)⟩;rw[<-l.at_];exact cB (by omega)
structure FitG (g : DGuest) : Prop where
 c:g.C.Regs.length<=9223372036854775807
 pages:g.Pages.length<=9223372036854775807
 i:g.In.length<=9223372036854775807
 o:g.Out.length<=9223372036854775807
structure FitH (h : DHost) : Prop where
 words:h.Words.length<=9223372036854775807
 guests:h.Guests.length<=9223372036854775807
 all:∀g∈h.Guests,FitG g
theorem aBw:SmallH M.zeroH:=⟨by simp[M.zeroH],by simp[M.zeroH],by simp[M.zeroH]⟩
theorem yW{h:DHost}{g p f:Int}{x:DGuest}(hs:SmallH h)(l:Live h g x)(f0:0<=f)(f1:f<20):SmallH (M.inFrame h g p f):=by have hlw:=l.ok.len;unfold M.inFrame;refine⟨?_,by simpa using hs.guests,λy hy=>?_⟩;{rw[tZ (by omega)];exact hs.words};{rcases List.mem_or_eq_of_mem_set hy with hy|rfl;{exact hs.all y hy};{rw[l.at_];exact⟨l.small.c,by simpa using l.small.pages,l.small.i,l.small.o⟩}}
theorem bFx{ss:List DSlot}{i:Nat}(hi:i<(M.free ss).length):M.many ss ((M.free ss).getD i default)=0:=by have hm:=cB hi;have key:∀x∈M.free ss,M.many ss x=0:=(by intro x hx;rw[nT]at hx;obtain⟨j,hj,rfl⟩:=List.mem_map.1 hx;exact of_decide_eq_true (List.mem_filter.1 hj).2);exact key _ hm
def M.fr(mem:List Int)(ss:List DSlot)(p:Nat):Int:=(M.free ss).getD (M.used mem p) default
section
variable {mem ws : List Int} {ss : List DSlot} (hu : M.used mem 8 ≤ (M.free ss).length)
include hu
end
theorem aDj{xs:List Int}:M.wordsOk xs=true↔∀a,a<xs.length->M.wordOk (xs.getD a default)=true:=by simp only[M.wordsOk,List.all_eq_true];constructor;{intro h a ha;exact h _ (cB ha)};{intro h x hx;obtain⟨i,hi,rfl⟩:=List.mem_iff_getElem.1 hx;have:=h i hi;rwa[aW hi]at this}
theorem aNy{x:DGuest}{s:DSlot}:∀{gs:List DGuest} {i:Nat},s∈M.slots (gs.set i x)->s∈M.slots gs\/s∈x.Pages
 |[],i,h=>by simp[M.slots]at h
 |g::gs,0,h=>by simp only[List.set_cons_zero,M.slots,List.flatMap_cons,List.mem_append]at h ⊢;rcases h with h|h;{exact .inr h};{exact .inl (.inr h)}
 |g::gs,i+1,h=>by simp only[List.set_cons_succ,M.slots,List.flatMap_cons,List.mem_append]at h ⊢;rcases h with h|h;{exact .inl (.inl h)};{rcases aNy h with h|h;{exact .inl (.inr h)};{exact .inr h}}
theorem aDt{s':DSlot}{f:Int}:∀{ps:List DSlot} {j:Nat},j<ps.length->M.many (ps.set j s') f+(if(ps.getD j default).Frame=f then 1 else 0)=M.many ps f+(if s'.Frame=f then 1 else 0)
 |[],j,h=>by simp at h
 |s::ps,0,_=>by rw[List.set_cons_zero,jX,jX];show M.many ps f+(if s'.Frame=f then 1 else 0)+(if s.Frame=f then 1 else 0)=_;omega
 |s::ps,j+1,h=>by have ih:=aDt (s':=s') (f:=f) (ps:=ps) (j:=j) (by simpa using h);rw[List.set_cons_succ,jX,jX];show M.many (ps.set j s') f+(if s.Frame=f then 1 else 0)+(if(ps.getD j default).Frame=f then 1 else 0)=_;omega
theorem tM{g:DGuest}{gs:List DGuest}{f:Int}:M.many (M.slots (g::gs)) f=M.many g.Pages f+M.many (M.slots gs) f:=by simp only[M.many,M.slots,List.flatMap_cons,List.countP_append]
theorem aEf{x:DGuest}{f:Int}:∀{gs:List DGuest} {i:Nat},i<gs.length->M.many (M.slots (gs.set i x)) f+M.many (gs.getD i default).Pages f=M.many (M.slots gs) f+M.many x.Pages f
 |[],i,h=>by simp at h
 |g::gs,0,_=>by rw[List.set_cons_zero,tM,tM];show M.many x.Pages f+M.many (M.slots gs) f+M.many g.Pages f=_;omega
 |g::gs,i+1,h=>by have ih:=aEf (x:=x) (f:=f) (gs:=gs) (i:=i) (by simpa using h);rw[List.set_cons_succ,tM,tM];show M.many g.Pages f+M.many (M.slots (gs.set i x)) f+M.many (gs.getD i default).Pages f=_;omega
section
variable {h : DHost} {g : Int} {x : DGuest}
def gK(x:DGuest)(p:Nat)(f:Int):DGuest:=⟨x.Live,x.C,x.Pages.set p ⟨f,true,(x.Pages.getD p default).Dirty⟩,x.In,x.Out⟩
theorem aAn(l:Live h g x){p f:Int}:M.inFrame h g p f=⟨over h.Words (f.toNat*8) 8 (M.pageWords h.Words (x.Pages.getD p.toNat default)),h.Guests.set g.toNat (gK x p.toNat f)⟩:=by unfold M.inFrame gK;rw[l.at_]
theorem aSt(l:Live h g x){p:Nat}(hp:p<8){f q:Int}:M.many (M.slots (h.Guests.set g.toNat (gK x p f))) q+(if(x.Pages.getD p default).Frame=q then 1 else 0)=M.many (M.slots h.Guests) q+(if f=q then 1 else 0):=by have:=l.ok.three;have:=l.lo;have:=l.hi;have hpl:=l.pages;have h1:=aEf (x:=gK x p f) (f:=q) (gs:=h.Guests) (i:=g.toNat) (by omega);have h2:=aDt (s':=⟨f,true,(x.Pages.getD p default).Dirty⟩) (f:=q) (ps:=x.Pages) (j:=p) (by omega);rw[l.at_]at h1;have e:(gK x p f).Pages=x.Pages.set p ⟨f,true,(x.Pages.getD p default).Dirty⟩:=rfl;rw[e]at h1;simp only at h2;omega
theorem bAk{ws ys:List Int}{o:Nat}(hw:M.wordsOk ws=true)(hy:M.wordsOk ys=true)(hl:ys.length=8)(ho:o+8<=ws.length):M.wordsOk (over ws o 8 ys)=true:=by rw[aDj]at*;intro a ha;rw[tZ ho]at ha;rw[aAj hl ho];by_cases h1:a<o;{rw[if_pos h1];exact hw a ha};{by_cases h2:a<o+8;{rw[if_neg h1,if_pos h2];exact hy _ (by omega)};{rw[if_neg h1,if_neg h2];exact hw a ha}}
theorem aQy(l:Live h g x){p:Nat}(hp:p<8):M.wordsOk (M.pageWords h.Words (x.Pages.getD p default))=true:=by have hs:=bU l hp;have hlw:=l.ok.len;rw[aDj];intro a ha;rw[pZ hlw hs]at ha;rw[pV hs ha];by_cases q:(x.Pages.getD p default).Frame<0;{rw[if_pos q];exact M.inR_iff.2 ⟨by omega,by omega⟩};{rw[if_neg q];exact aDj.1 l.ok.words _ (by omega)}
theorem aQj(l:Live h g x){p f:Int}(p0:0<=p)(p1:p<=7)(f0:0<=f)(f1:f<20)(hm:M.many (M.slots h.Guests) f=if(x.Pages.getD p.toNat default).Frame=f then 1 else 0):HOk (M.inFrame h g p f):=by have h3:=l.ok.three;have:=l.lo;have:=l.hi;have hpl:=l.pages;have hlw:=l.ok.len;have hs:=bU l (p:=p.toNat) (by omega);rw[aAn l];refine⟨by rw[tZ (by omega),hlw],bAk l.ok.words (aQy l (by omega)) (pZ hlw hs) (by omega),by rw[lS];exact h3,?_,?_⟩;{rw[List.all_eq_true];intro y hy;rcases List.mem_or_eq_of_mem_set hy with hy|rfl;{exact List.all_eq_true.1 l.ok.all y hy};{unfold M.guestOk gK;simp only;rw[l.live,cTq];simp only[bA,decide_eq_true_eq];refine⟨⟨⟨l.core,by rw[lS];exact hpl,?_⟩,l.inn⟩,l.out⟩;rw[List.all_eq_true];intro s hs;rcases List.mem_or_eq_of_mem_set hs with hs|rfl;{exact List.all_eq_true.1 l.slots s hs};{unfold M.slotOk;simp only;rw[dF (by omega),cFq,dT f0,dT f1];rfl}}};{have ha:=l.ok.alone;simp only[M.alone,List.all_eq_true,Bool.or_eq_true,Bool.not_eq_true',decide_eq_true_eq]at ha ⊢;intro s hsm;(cases hsw:s.Write with|false=>exact .inl rfl|true=>right;have hk:=aSt l (p:=p.toNat) (by omega) (f:=f) (q:=s.Frame);by_cases e:f=s.Frame;{rw[e]at hm;rw[e]at hk;rw[hm]at hk;simp only[if_true]at hk;rw[e];omega};{rw[if_neg e]at hk;have hold:s∈M.slots h.Guests:=(by obtain⟨y,hy,hs2⟩:=List.mem_flatMap.1 hsm;rcases List.mem_or_eq_of_mem_set hy with hy|rfl;{exact List.mem_flatMap.2 ⟨y,hy,hs2⟩};{rcases List.mem_or_eq_of_mem_set (show s∈x.Pages.set p.toNat ⟨f,true,_⟩from hs2)with hs3|rfl;{exact List.mem_flatMap.2 ⟨x,by rw[<-l.at_];exact cB (by omega),hs3⟩};{exact absurd rfl e}});have:=(ha s hold).resolve_left (by rw[hsw];simp);omega})}
theorem aGa(l:Live h g x){p f:Int}{k:Nat}(hk:k<3):(M.inFrame h g p f).Guests.getD k default=if(k:Int)=g then gK x p.toNat f else h.Guests.getD k default:=by have h3:=l.ok.three;have:=l.lo;have:=l.hi;rw[aAn l];show(h.Guests.set g.toNat _).getD k default=_;by_cases e:(k:Int)=g;{rw[if_pos e,show k=g.toNat by omega,aW (by rw[lS];omega),List.getElem_set_self]};{rw[if_neg e,aW (by rw[lS];omega),List.getElem_set_ne (by omega),<-aW]}
theorem aZd (hs:SmallH h) (l:Live h g x) {p f:Int} (p0:0<=p) (p1:p<=7) (f0:0<=f) (f1:f<20) (hok:HOk (M.inFrame h g p f))
 (hm:(x.Pages.getD p.toNat default).Frame=f\/M.many (M.slots h.Guests) f=0) {k:Nat} (hk:k<3):M.hostView (M.inFrame h g p f) (k:Int)=M.hostView h (k:Int):=by
 have h3:=l.ok.three;have:=l.lo;have:=l.hi;have hpl:=l.pages;have hlw:=l.ok.len;have hsl:=bU l (p:=p.toNat) (by omega);have hpw:=pZ (ws:=h.Words) hlw hsl;have hgk:=aGa l (p:=p) (f:=f) hk;have hlive:((M.inFrame h g p f).Guests.getD k default).Live=(h.Guests.getD k default).Live:=(by rw[hgk];by_cases e:(k:Int)=g;{have hx:h.Guests.getD k default=x:=(by have:=l.at_;rwa[show g.toNat=k by omega]at this);rw[if_pos e,hx];rfl};{rw[if_neg e]});have e1:M.there (M.inFrame h g p f) (k:Int)=M.there h (k:Int):=(by unfold M.there;rw[fF.2 hok,fF.2 l.ok,iT,hlive]);unfold M.hostView;rw[e1,iT,hgk];cases ht:M.there h (k:Int)with
 |false=>rfl
 |true=>
  have lk:=dC hs ht;rw[iT]at lk;rw[aAn l];have wd:∀{t:DSlot} {b:Nat},b<8->-1<=t.Frame->t.Frame<20->(t.Frame≠f\/(x.Pages.getD p.toNat default).Frame=f)->0<=t.Frame->(over h.Words (f.toNat*8) 8 (M.pageWords h.Words (x.Pages.getD p.toNat default))).getD (t.Frame.toNat*8+b) default=h.Words.getD (t.Frame.toNat*8+b) default:=(by intro t b hb t0 t1 tf tn;rw[aAj hpw (by omega)];by_cases q1:t.Frame.toNat*8+b<f.toNat*8;{rw[if_pos q1]};{by_cases q2:t.Frame.toNat*8+b<f.toNat*8+8;{have q3:t.Frame=f:=(by omega);have q4:=tf.resolve_left (λhn=>hn q3);rw[if_neg q1,if_pos q2,pV hsl (by omega),if_neg (by omega),q4];congr 1;omega};{rw[if_neg q1,if_neg q2]}});have old:∀{y:DGuest} {a:Nat},Live h (k:Int) y->a<64->(y.Pages.getD (a/8) default).Frame≠f\/(x.Pages.getD p.toNat default).Frame=f:=(by intro y a ly ha;rcases hm with hm|hm;{exact .inr hm};{left;intro e;have:=aNu ly (p:=a/8) (by omega);rw[e,hm]at this;omega});by_cases e:(k:Int)=g
  · rw[if_pos e]
    have hx:h.Guests.getD k default=x:=(by have:=l.at_;rwa[show g.toNat=k by omega]at this);rw[hx]at lk ⊢
    have:M.mem (over h.Words (f.toNat*8) 8 (M.pageWords h.Words (x.Pages.getD p.toNat default))) (gK x p.toNat f).Pages=M.mem h.Words x.Pages:=by
     refine tE fE fE λa ha=>?_;rw[iR ha,iR ha];have hr:=bU l (p:=a/8) (by omega);unfold M.word;by_cases q:a/8=p.toNat
     · have eg:(gK x p.toNat f).Pages.getD (a/8) default=⟨f,true,(x.Pages.getD p.toNat default).Dirty⟩:=by
        rw[q];show(x.Pages.set p.toNat _).getD p.toNat default=_;rw[aW (by rw[lS];omega),List.getElem_set_self]
       rw[eg,q];simp only;rw[if_neg (by omega),aAj hpw (by omega),if_neg (by omega),if_pos (by omega),show f.toNat*8+a%8-f.toNat*8=a%8 by omega,pV hsl (by omega)]
     · have eg:(gK x p.toNat f).Pages.getD (a/8) default=x.Pages.getD (a/8) default:=by
        show(x.Pages.set p.toNat _).getD (a/8) default=_;rw[aW (by rw[lS];omega),List.getElem_set_ne (by omega),<-aW]
       rw[eg];split;{rfl};{exact wd (t:=x.Pages.getD (a/8) default) (by omega) hr.1 hr.2 (old lk ha) (by omega)}
    show(bif true then((⟨x.C,M.mem _ (gK x p.toNat f).Pages,x.In,x.Out⟩:DBare),true)else _)=_;rw[this]
  {rw[if_neg e];have:M.mem (over h.Words (f.toNat*8) 8 (M.pageWords h.Words (x.Pages.getD p.toNat default))) (h.Guests.getD k default).Pages=M.mem h.Words (h.Guests.getD k default).Pages:=(by refine tE fE fE λa ha=>?_;rw[iR ha,iR ha];have hr:=bU lk (p:=a/8) (by omega);unfold M.word;split;{rfl};{exact wd (t:=(h.Guests.getD k default).Pages.getD (a/8) default) (by omega) hr.1 hr.2 (old lk ha) (by omega)});show(bif true then((⟨(h.Guests.getD k default).C,M.mem _ (h.Guests.getD k default).Pages,(h.Guests.getD k default).In,(h.Guests.getD k default).Out⟩:DBare),true)else _)=_;rw[this]}
end
namespace M
def sLets(s:DShade)(user write:Bool):Bool:=s.There&&(s.Write||!write)&&(s.User||!user)
def place(s:DShade)(addr:Int)(user write:Bool):Int×Int:=bif !sLets s user write then(-1,1)else bif decide (s.Frame=-1)then(-1,2)else bif write&&!s.Ready then(-1,3)else(s.Frame*8+addr%8,0)
end M
theorem at8{a f:Int}(h0:0<=a)(h1:a<=63)(f0:0<=f)(f1:f<20):w64 (w64 (f*8)+Int.tmod a 8)=f*8+a%8:=by rw[iM h0,aC (z:=f*8) (by omega) (by omega),aC (by omega) (by omega)]
theorem aPr{s:DShade}{a:Int}{user write:Bool}(h0:0<=a)(h1:a<=63)(f0:-1<=s.Frame)(f1:s.Frame<20):kH s a user write=some (M.place s a user write):=by obtain⟨t,w,u,p,f,r⟩:=s;simp only at f0 f1;unfold kH fW M.place M.sLets;by_cases e:f=-1;{simp only[dT e];cases t<;>cases w<;>cases u<;>cases user<;>cases write<;>rfl};{simp only[dF e,lD,at8 h0 h1 (by omega) f1];cases t<;>cases w<;>cases u<;>cases user<;>cases write<;>cases r<;>simp only[bT,bF,cTq,cFq,oB,JO.run,Bool.and_true,Bool.and_false,Bool.true_and,Bool.false_and,Bool.or_true,Bool.or_false,lD,at8 h0 h1 (show 0<=f by omega) f1]}
theorem aUm{h:DHost}{g:Int}{x:DGuest}(l:Live h g x){p:Nat}(hp:p<8):-1<=(M.shade h.Words x p).Frame/\(M.shade h.Words x p).Frame<20:=by have he:=aBq l hp;exact bU l (p:=(M.entry h.Words x p).Page.toNat) (by omega)
structure FG (gs : List DGuest) : Prop where
 three:gs.length=3
 all:∀g∈gs,SmallG g/\g.Pages.length<=8
theorem FG.get{gs:List DGuest}(h:FG gs){i:Nat}(hi:i<3):SmallG (gs.getD i default)/\(gs.getD i default).Pages.length<=8:=h.all _ (cB (by rw[h.three];exact hi))
theorem FG.set{gs:List DGuest}{i:Nat}{x:DGuest}(h:FG gs)(hx:SmallG x/\x.Pages.length<=8):FG (gs.set i x):=by refine⟨by rw[lS];exact h.three,λg hg=>?_⟩;rcases List.mem_or_eq_of_mem_set hg with hg|rfl;{exact h.all g hg};{exact hx}
theorem FG.host{gs:List DGuest}{ws:List Int}(h:FG gs)(hw:ws.length<=1048576):SmallH ⟨ws,gs⟩:=⟨hw,by simp only[h.three];omega,λg hg=>(h.all g hg).1⟩
theorem aJw{h:DHost}{g p:Int}{x:DGuest}(l:Live h g x)(p0:0<=p)(p1:p<=7)(h2:(M.inFree h g p).2=true):∃f,0<=f/\f<20/\M.many (M.slots h.Guests) f=0/\M.inFree h g p=(M.inFrame h g p f,true):=by unfold M.inFree at h2 ⊢;by_cases e:(M.free (M.slots h.Guests)).length=0;{rw[dT e]at h2;cases h2};{have hf:=aWc (ss:=M.slots h.Guests) (i:=0) (by omega);exact⟨_,hf.1,hf.2,bFx (by omega),by rw[dF e];rfl⟩}
theorem aLg{h:DHost}{g f:Int}{x:DGuest}(l:Live h g x){p:Nat}(hp:p<8)(hm:M.many (M.slots h.Guests) f=0):(x.Pages.getD p default).Frame≠f:=by intro e;have:=aNu l hp;rw[e,hm]at this;omega
theorem aYo{h:DHost}{g p:Int}(hs:SmallH h)(h2:(M.hostFill h g p).2=true):∃x,Live h g x/\0<=p/\p<=7/\
 ((M.hostFill h g p=(h,true)/\(x.Pages.getD p.toNat default).Frame≠-1)\/∃f,0<=f/\f<20/\M.many (M.slots h.Guests) f=0/\M.hostFill h g p=(M.inFrame h g p f,true)):=by
 unfold M.hostFill at h2 ⊢;(cases ht:M.there h g with|false=>rw[ht]at h2;cases h2|true=>have l:=dC hs ht;(cases hp:M.inR 0 7 p with|false=>rw[ht,hp]at h2;cases h2|true=>obtain⟨p0,p1⟩:=M.inR_iff.1 hp;rw[ht,hp,Bool.and_self,cTq]at h2;refine⟨_,l,p0,p1,?_⟩;rw[Bool.and_self,cTq];by_cases e:((h.Guests.getD g.toNat default).Pages.getD p.toNat default).Frame=-1;{rw[dT e,cTq]at h2 ⊢;exact .inr (aJw l p0 p1 h2)};{rw[dF e,cFq];exact .inl ⟨rfl,e⟩}))
theorem bAt{h:DHost}{g p f:Int}{x:DGuest}(l:Live h g x)(p0:0<=p)(p1:p<=7):(M.inFrame h g p f).Guests.getD g.toNat default=gK x p.toNat f/\(gK x p.toNat f).Pages.length=8/\(gK x p.toNat f).Pages.getD p.toNat default=⟨f,true,(x.Pages.getD p.toNat default).Dirty⟩:=by have:=l.lo;have:=l.hi;have hpl:=l.pages;have h1:=aGa l (p:=p) (f:=f) (k:=g.toNat) (by omega);rw[if_pos (by omega)]at h1;refine⟨h1,by unfold gK;rw[lS];exact hpl,?_⟩;show(x.Pages.set p.toNat _).getD p.toNat default=_;rw[aW (by rw[lS];omega),List.getElem_set_self]
theorem bKx{h:DHost}{g:Int}{x:DGuest}(l:Live h g x):M.bareOk ⟨x.C,M.mem h.Words x.Pages,x.In,x.Out⟩=true:=by
 have hk:=l.ok;unfold M.bareOk M.memOk;simp only[bA,decide_eq_true_eq];refine⟨⟨⟨l.core,fE,?_⟩,l.inn⟩,l.out⟩;simp only[M.wordsOk,List.all_eq_true,M.mem,List.mem_map,List.mem_range]
 rintro w ⟨a,ha,rfl⟩
 unfold M.word M.wordOk;rw[M.inR_iff];have hr:=aCo l.slots (i:=a/8) (by rw[l.pages];omega);split;{omega};{exact iK hk.words (by rw[hk.len];omega)}
namespace M
def vw(ws:List Int)(x:DGuest):DBare:=⟨x.C,mem ws x.Pages,x.In,x.Out⟩
def mach(x:DGuest):DBare:=⟨x.C,[],x.In,x.Out⟩
def withM(h:DHost)(g:Int)(x:DGuest)(b:DBare):DHost:=⟨h.Words,h.Guests.set g.toNat ⟨x.Live,b.C,x.Pages,b.In,b.Out⟩⟩
def busy(c:DCore):Bool:=c.Stopped||((tick c).Waits&&(tick c).On)
def wpc(b:DBare):Int:=walk b.Mem b.C.Root b.C.Pc b.C.User false
def inst(b:DBare):DIns:=ins (b.Mem.getD (wpc b).toNat default)
def adr(b:DBare):Int:=reg b.C ((inst b).N%4)%64
def isSt(b:DBare):Bool:=decide ((inst b).Op=4)
def wad(b:DBare):Int:=walk b.Mem b.C.Root (adr b) b.C.User (isSt b)
def reads(b:DBare):Bool:=!busy b.C&&!decide (wpc b=-1)
def comes(b:DBare):Bool:=reads b&&(decide ((inst b).Op=3)||isSt b)&&!decide (wad b=-1)
def lackS(s:DSlot)(w:Bool):Bool:=decide (s.Frame=-1)||(w&&!s.Write)
def one(b:Bool):Nat:=bif b then 1 else 0
def cnt(ps:List DSlot)(b:DBare):Nat:=one (reads b&&lackS (ps.getD (wpc b/8).toNat default) false)+one (comes b&&lackS (ps.getD (wad b/8).toNat default) (isSt b))
def e0:DExit:=⟨0,0,⟨0,0,0⟩⟩
def aExit(s:DShade)(why:Int):DExit:=bif decide (why=2)then⟨2,s.Page,⟨0,0,0⟩⟩else bif decide (why=3)then⟨3,s.Page,⟨0,0,0⟩⟩else e0
def shadeAt(ws:List Int)(x:DGuest)(a:Int):DShade:=shade ws x (a/8).toNat
def placeAt(ws:List Int)(x:DGuest)(a:Int)(w:Bool):Int×Int:=place (shadeAt ws x a) a x.C.User w
def iExit(ws:List Int)(x:DGuest)(i:DIns):DExit:=
 bif kern i.Op&&!x.C.User then⟨1,0,i⟩
 else bif decide (i.Op=3)||decide (i.Op=4)then aExit (shadeAt ws x (reg x.C (i.N%4)%64)) (placeAt ws x (reg x.C (i.N%4)%64) (decide (i.Op=4))).2
 else e0
def xExit(ws:List Int)(x:DGuest):DExit:=
 bif busy x.C then e0
 else bif !decide ((placeAt ws x x.C.Pc false).2=0)then aExit (shadeAt ws x x.C.Pc) (placeAt ws x x.C.Pc false).2
 else iExit ws x (ins (ws.getD (placeAt ws x x.C.Pc false).1.toNat default))
noncomputable def guestExit (h:DHost)(g:Int):DExit:=bif there h g then xExit h.Words (h.Guests.getD g.toNat default)else e0
def lacks(e:DExit):Bool:=decide (e.Why=2)||decide (e.Why=3)
noncomputable def answered (h:DHost)(g:Int)(e:DExit):DHost×Bool:=bif decide (e.Why=2)then hostFill h g e.Page else hostCopy h g e.Page
noncomputable def ready (g:Int):Nat->DHost->Option DHost
 |0,h=>some h
 |n+1,h=>bif lacks (guestExit h g)then(bif (answered h g (guestExit h g)).2 then ready g n (answered h g (guestExit h g)).1 else none)else some h
def wrote(b:DBare):Bool:=comes b&&isSt b
def dirty(x:DGuest)(p:Nat):DSlot:=⟨(x.Pages.getD p default).Frame,(x.Pages.getD p default).Write,true⟩
def ran(h:DHost)(g:Int)(x:DGuest):DHost:=
 bif wrote (vw h.Words x)then
  ⟨h.Words.set ((x.Pages.getD (wad (vw h.Words x)/8).toNat default).Frame*8+wad (vw h.Words x)%8).toNat (reg x.C (inst (vw h.Words x)).A),h.Guests.set g.toNat ⟨x.Live,(step (vw h.Words x)).C,x.Pages.set (wad (vw h.Words x)/8).toNat (dirty x (wad (vw h.Words x)/8).toNat),(step (vw h.Words x)).In,(step (vw h.Words x)).Out⟩⟩
 else withM h g x (step (vw h.Words x))
noncomputable def hostStep (h:DHost)(g:Int):DHost×Bool:=bif there h g then
 (match ready g 8 h with
 |some h'=>(ran h' g (h'.Guests.getD g.toNat default),true)
 |none=>(h,false))
 else(zeroH,false)
end M
section
variable (c : DCore)
theorem tC:(M.tick c).Pc=c.Pc:=by unfold M.tick;cases decide (c.Timer=0)<;>rfl
theorem aNq:(M.tick c).Root=c.Root:=by unfold M.tick;cases decide (c.Timer=0)<;>rfl
theorem aNo:(M.tick c).User=c.User:=by unfold M.tick;cases decide (c.Timer=0)<;>rfl
theorem bBa:(M.tick c).Regs=c.Regs:=by unfold M.tick;cases decide (c.Timer=0)<;>rfl
theorem aHc(k:Int):M.reg (M.tick c) k=M.reg c k:=by unfold M.reg;rw[bBa]
end
theorem aMq{b:DBare}(hb:BOk b):M.insOk (M.inst b)=true:=by have hm:0<=b.Mem.getD (M.wpc b).toNat default/\b.Mem.getD (M.wpc b).toNat default<=4095:=(by by_cases h:M.wpc b=-1;{rw[h];exact tD hb (z:=0) (by omega) (by omega)};{have hw:=qY _ _ _ _ _ h;exact tD hb hw.1 hw.2});exact aCl hm.1 hm.2
section
variable {h : DHost} {g : Int} {x : DGuest}
theorem lG(l:Live h g x):BOk (M.vw h.Words x):=aFp.1 (bKx l)
theorem bAn(l:Live h g x){a:Int}{w:Bool}(a0:0<=a)(a1:a<=63):
 M.walk (M.mem h.Words x.Pages) x.C.Root a x.C.User w=(bif M.sLets (M.shadeAt h.Words x a) x.C.User w then(M.shadeAt h.Words x a).Page*8+a%8 else-1):=by
 have hb:=lG l;have hr:=aNk l.core;unfold M.walk;rw[show M.memOk (M.mem h.Words x.Pages)=true from hb.mem,M.inR_iff.2 hr,M.inR_iff.2 ⟨a0,a1⟩];simp only[Bool.and_self,cTq];by_cases e:x.C.Root=-1;{rw[dT e,cTq];have es:M.shadeAt h.Words x a=M.shadeFor x ⟨true,true,true,(((a/8).toNat:Nat):Int)⟩:=(by unfold M.shadeAt M.shade M.entry;rw[if_pos e]);rw[es];simp only[M.sLets,M.shadeFor,Bool.true_or,Bool.and_self,cTq];omega};{rw[dF e,cFq];have es:M.shadeAt h.Words x a=M.shadeFor x (dec ((M.mem h.Words x.Pages).getD (x.C.Root*8+a/8).toNat default)):=(by unfold M.shadeAt M.shade M.entry;rw[if_neg e,iR (by omega),show(x.C.Root*8+a/8).toNat=x.C.Root.toNat*8+(a/8).toNat by omega]);rw[es];rfl}
theorem rX(l:Live h g x){a:Int}{w:Bool}(a0:0<=a)(a1:a<=63){t:Int}(ht:M.walk (M.mem h.Words x.Pages) x.C.Root a x.C.User w=t):
 (t=-1/\M.placeAt h.Words x a w=(-1,1))\/
 (0<=t/\t<64/\(M.shadeAt h.Words x a).Page=t/8/\M.placeAt h.Words x a w=bif decide ((x.Pages.getD (t/8).toNat default).Frame=-1)then(-1,2)else bif w&&!(x.Pages.getD (t/8).toNat default).Write then(-1,3)else((x.Pages.getD (t/8).toNat default).Frame*8+t%8,0)):=by
 rw[bAn l a0 a1]at ht;have hp:=aBq l (p:=(a/8).toNat) (by omega);have e1:(M.shadeAt h.Words x a).Page=(M.entry h.Words x (a/8).toNat).Page:=rfl;unfold M.placeAt M.place;(cases hl:M.sLets (M.shadeAt h.Words x a) x.C.User w with|false=>rw[hl,cFq]at ht;exact .inl ⟨ht.symm,rfl⟩|true=>rw[hl,cTq]at ht;have e2:(M.shadeAt h.Words x a).Page=t/8:=(by omega);refine .inr ⟨by omega,by omega,e2,?_⟩;have e3:(M.shadeAt h.Words x a).Frame=(x.Pages.getD (t/8).toNat default).Frame:=(by rw[<-e2];rfl);have e4:(M.shadeAt h.Words x a).Ready=(x.Pages.getD (t/8).toNat default).Write:=(by rw[<-e2];rfl);rw[e3,e4,show t%8=a%8 by omega];rfl)
theorem aLo(l:Live h g x){t:Int}(t0:0<=t)(t1:t<64)(hf:(x.Pages.getD (t/8).toNat default).Frame≠-1):
 h.Words.getD ((x.Pages.getD (t/8).toNat default).Frame*8+t%8).toNat default=(M.mem h.Words x.Pages).getD t.toNat default:=by
 have hr:=bU l (p:=(t/8).toNat) (by omega);rw[iR (by omega)];unfold M.word;rw[show t.toNat/8=(t/8).toNat by omega,if_neg (by omega)];congr 1;omega
theorem bGn{op:Int}(h:M.kern op=true):op≠3/\op≠4:=by constructor<;>rintro rfl<;>exact absurd h (by decide)
theorem aKl(b:DBare)(h:M.busy b.C=true):M.reads b=false/\M.comes b=false:=by unfold M.comes M.reads;rw[h];exact⟨rfl,rfl⟩
theorem aKg(l:Live h g x):
 ((M.xExit h.Words x).Why=2/\∃t,0<=t/\t<64/\(M.xExit h.Words x).Page=t/8/\(x.Pages.getD (t/8).toNat default).Frame=-1/\((M.reads (M.vw h.Words x)=true/\t=M.wpc (M.vw h.Words x))\/(M.comes (M.vw h.Words x)=true/\t=M.wad (M.vw h.Words x))))\/
 ((M.xExit h.Words x).Why=3/\∃t,0<=t/\t<64/\(M.xExit h.Words x).Page=t/8/\(x.Pages.getD (t/8).toNat default).Frame≠-1/\(x.Pages.getD (t/8).toNat default).Write=false/\M.comes (M.vw h.Words x)=true/\t=M.wad (M.vw h.Words x)/\M.isSt (M.vw h.Words x)=true)\/
 ((M.xExit h.Words x=M.e0\/(M.xExit h.Words x=⟨1,0,M.inst (M.vw h.Words x)⟩/\M.kern (M.inst (M.vw h.Words x)).Op=true/\x.C.User=false))/\M.cnt x.Pages (M.vw h.Words x)=0):=by
 have hb:=lG l;unfold M.xExit;cases hbz:M.busy x.C with
 |true=>obtain⟨h1,h2⟩:=aKl (M.vw h.Words x) hbz;refine .inr (.inr ⟨.inl rfl,?_⟩);unfold M.cnt;rw[h1,h2];rfl
 |false=>
  rw[cFq];have hrd:M.reads (M.vw h.Words x)=!decide (M.wpc (M.vw h.Words x)=-1):=(by unfold M.reads;rw[show M.busy (M.vw h.Words x).C=false from hbz];rfl);rcases rX l (a:=x.C.Pc) (w:=false) hb.pc.1 hb.pc.2 (t:=M.wpc (M.vw h.Words x)) rfl with⟨ht,hp⟩|⟨t0,t1,hpg,hp⟩;{have h1:M.reads (M.vw h.Words x)=false:=(by rw[hrd,dT (show M.wpc (M.vw h.Words x)=-1 from ht)];rfl);have h2:M.comes (M.vw h.Words x)=false:=(by unfold M.comes;rw[h1];rfl);rw[hp];refine .inr (.inr ⟨.inl rfl,?_⟩);unfold M.cnt;rw[h1,h2];rfl}
  · have h1:M.reads (M.vw h.Words x)=true:=by rw[hrd,dF (show¬M.wpc (M.vw h.Words x)=-1 by have:0<=M.wpc (M.vw h.Words x):=t0;omega)];rfl
    by_cases hf:(x.Pages.getD (M.wpc (M.vw h.Words x)/8).toNat default).Frame=-1;{rw[dT hf]at hp;rw[hp];exact .inl ⟨rfl,M.wpc (M.vw h.Words x),t0,t1,hpg,hf,.inl ⟨h1,rfl⟩⟩}
    · rw[dF hf,cFq,Bool.false_and,cFq]at hp
      have hw:=aLo l t0 t1 hf;rw[hp];simp only[decide_true,bT,cFq];rw[show M.ins (h.Words.getD ((x.Pages.getD (M.wpc (M.vw h.Words x)/8).toNat default).Frame*8+M.wpc (M.vw h.Words x)%8).toNat default)=M.inst (M.vw h.Words x) by rw[hw];rfl];have hl1:M.lackS (x.Pages.getD (M.wpc (M.vw h.Words x)/8).toNat default) false=false:=(by unfold M.lackS;rw[dF hf];rfl);generalize hi:M.inst (M.vw h.Words x)=i;unfold M.iExit;cases hk:M.kern i.Op with
      |true=>obtain⟨n3,n4⟩:=bGn hk;have h2:M.comes (M.vw h.Words x)=false:=(by unfold M.comes M.isSt;rw[hi,dF n3,dF n4];simp);have hc:M.cnt x.Pages (M.vw h.Words x)=0:=(by unfold M.cnt;rw[h2,hl1];simp[M.one]);(cases hu:x.C.User with|false=>exact .inr (.inr ⟨.inr ⟨rfl,rfl,rfl⟩,hc⟩)|true=>simp only[bT,Bool.and_false,cFq];rw[dF n3,dF n4];exact .inr (.inr ⟨.inl rfl,hc⟩))
      |false=>
       rw[Bool.false_and,cFq];by_cases ho:i.Op=3\/i.Op=4;{have eo:(decide (i.Op=3)||decide (i.Op=4))=true:=(by simpa using ho);have ead:M.reg x.C (i.N%4)%64=M.adr (M.vw h.Words x):=(by unfold M.adr;rw[hi];rfl);have est:decide (i.Op=4)=M.isSt (M.vw h.Words x):=(by unfold M.isSt;rw[hi]);have hco:M.comes (M.vw h.Words x)=!decide (M.wad (M.vw h.Words x)=-1):=(by unfold M.comes;rw[h1,<-est,hi,eo];rfl);have har:0<=M.adr (M.vw h.Words x)/\M.adr (M.vw h.Words x)<=63:=(by unfold M.adr;omega);rw[eo,cTq,ead,est];rcases rX l (a:=M.adr (M.vw h.Words x)) (w:=M.isSt (M.vw h.Words x)) har.1 har.2 (t:=M.wad (M.vw h.Words x)) rfl with⟨ht,hp⟩|⟨t0,t1,hpg,hp⟩;{have h2:M.comes (M.vw h.Words x)=false:=(by rw[hco,dT ht];rfl);rw[hp];refine .inr (.inr ⟨.inl rfl,?_⟩);unfold M.cnt;rw[h2,hl1];simp[M.one]};{have h2:M.comes (M.vw h.Words x)=true:=(by rw[hco,dF (by omega)];rfl);by_cases hf2:(x.Pages.getD (M.wad (M.vw h.Words x)/8).toNat default).Frame=-1;{rw[dT hf2,cTq]at hp;rw[hp];exact .inl ⟨rfl,_,t0,t1,hpg,hf2,.inr ⟨h2,rfl⟩⟩};{rw[dF hf2,cFq]at hp;(cases hw2:M.isSt (M.vw h.Words x)&&!(x.Pages.getD (M.wad (M.vw h.Words x)/8).toNat default).Write with|true=>rw[hw2,cTq]at hp;rw[hp];rw[bA,Bool.not_eq_true']at hw2;exact .inr (.inl ⟨rfl,_,t0,t1,hpg,hf2,hw2.2,h2,rfl,hw2.1⟩)|false=>rw[hw2,cFq]at hp;rw[hp];refine .inr (.inr ⟨.inl rfl,?_⟩);have hl2:M.lackS (x.Pages.getD (M.wad (M.vw h.Words x)/8).toNat default) (M.isSt (M.vw h.Words x))=false:=(by unfold M.lackS;rw[dF hf2,hw2];rfl);unfold M.cnt;rw[hl1,hl2];simp[M.one])}}}
       · have eo:(decide (i.Op=3)||decide (i.Op=4))=false:=by
          rw[Bool.or_eq_false_iff,decide_eq_false_iff_not,decide_eq_false_iff_not];exact not_or.1 ho
         have h2:M.comes (M.vw h.Words x)=false:=(by unfold M.comes M.isSt;rw[hi,eo];simp);rw[eo,cFq];refine .inr (.inr ⟨.inl rfl,?_⟩);unfold M.cnt;rw[h2,hl1];simp[M.one]
end
theorem aYf{h:DHost}{g p:Int}(hs:SmallH h)(h2:(M.hostCopy h g p).2=true):∃x f,Live h g x/\0<=p/\p<=7/\0<=f/\f<20/\M.hostCopy h g p=(M.inFrame h g p f,true)/\
 (((x.Pages.getD p.toNat default).Frame=f/\M.many (M.slots h.Guests) f=1)\/M.many (M.slots h.Guests) f=0):=by
 unfold M.hostCopy at h2 ⊢;(cases ht:M.there h g with|false=>rw[ht]at h2;cases h2|true=>have l:=dC hs ht;(cases hp:M.inR 0 7 p with|false=>rw[ht,hp]at h2;cases h2|true=>obtain⟨p0,p1⟩:=M.inR_iff.1 hp;have hsl:=bU l (p:=p.toNat) (by omega);rw[ht,hp,Bool.and_self,cTq]at h2;rw[Bool.and_self,cTq];by_cases e:((h.Guests.getD g.toNat default).Pages.getD p.toNat default).Frame=-1;{rw[dT e]at h2;cases h2};{rw[dF e,cFq]at h2 ⊢;by_cases q:M.many (M.slots h.Guests) ((h.Guests.getD g.toNat default).Pages.getD p.toNat default).Frame=1;{refine⟨_,_,l,p0,p1,by omega,hsl.2,by rw[dT q,cTq],.inl ⟨rfl,q⟩⟩};{rw[dF q,cFq]at h2 ⊢;obtain⟨f,f0,f1,hm,e2⟩:=aJw l p0 p1 h2;exact⟨_,f,l,p0,p1,f0,f1,e2,.inr hm⟩}}))
def one(f:Int)(t:DSlot):Int:=if t.Frame=f then 1 else 0
section
variable {h : DHost} {g : Int} {x : DGuest}
theorem aAo(l:Live h g x):M.there h g=true:=nQ.2 ⟨l.ok,l.lo,l.hi,by rw[l.at_];exact l.live⟩
theorem wF(l:Live h g x):M.guestExit h g=M.xExit h.Words x:=by unfold M.guestExit;rw[aAo l,cTq,l.at_]
theorem xV(l:Live h g x):M.hostView h g=(M.vw h.Words x,true):=by unfold M.hostView;rw[aAo l,cTq,l.at_];rfl
theorem aKs(hs:SmallH h)(l:Live h g x){p f:Int}(p0:0<=p)(p1:p<=7)(f0:0<=f)(f1:f<20)(hok:HOk (M.inFrame h g p f)):Live (M.inFrame h g p f) g (gK x p.toNat f):=by have g0:=l.lo;have g1:=l.hi;have hg:=(bAt (f:=f) l p0 p1).1;have:=dC (yW (p:=p) (f:=f) hs l f0 f1) (nQ.2 ⟨hok,g0,g1,by rw[hg];exact l.live⟩);rwa[hg]at this
theorem aTe(l:Live h g x){p q:Nat}{f:Int}(hp:p<8)(f0:0<=f){w:Bool}:M.lackS ((gK x p f).Pages.getD q default) w=if q=p then false else M.lackS (x.Pages.getD q default) w:=by have hpl:=l.pages;show M.lackS ((x.Pages.set p _).getD q default) w=_;by_cases e:q=p;{subst e;rw[if_pos rfl,aW (by rw[lS];omega),List.getElem_set_self];unfold M.lackS;simp only[bT,Bool.and_false,Bool.or_false];exact dF (by omega)};{rw[if_neg e];congr 1;simp only[List.getD_eq_getElem?_getD,List.getElem?_set];rw[if_neg (by omega)]}
theorem bDb{a b:Bool}(h:a=true->b=true):M.one a<=M.one b:=by cases a;{exact Nat.zero_le _};{rw[h rfl];exact Nat.le_refl _}
theorem aXk (l:Live h g x) {p:Nat} {f:Int} (hp:p<8) (f0:0<=f) {b:DBare}
 (hl:(M.reads b=true/\(M.wpc b/8).toNat=p/\M.lackS (x.Pages.getD p default) false=true)\/(M.comes b=true/\(M.wad b/8).toNat=p/\M.lackS (x.Pages.getD p default) (M.isSt b)=true)):
 M.cnt (gK x p f).Pages b<M.cnt x.Pages b:=by
 unfold M.cnt;rw[aTe l hp f0,aTe l hp f0];have h1:M.one (M.reads b&&if(M.wpc b/8).toNat=p then false else M.lackS (x.Pages.getD (M.wpc b/8).toNat default) false)<=M.one (M.reads b&&M.lackS (x.Pages.getD (M.wpc b/8).toNat default) false):=bDb λh=>by split at h;{simp at h};{exact h}
 have h2:M.one (M.comes b&&if(M.wad b/8).toNat=p then false else M.lackS (x.Pages.getD (M.wad b/8).toNat default) (M.isSt b))<=M.one (M.comes b&&M.lackS (x.Pages.getD (M.wad b/8).toNat default) (M.isSt b)):=bDb λh=>by split at h;{simp at h};{exact h}
 rcases hl with⟨a1,a2,a3⟩|⟨a1,a2,a3⟩;{have e1:M.one (M.reads b&&M.lackS (x.Pages.getD (M.wpc b/8).toNat default) false)=1:=(by rw[a1,a2,a3];rfl);have e2:M.one (M.reads b&&if(M.wpc b/8).toNat=p then false else M.lackS (x.Pages.getD (M.wpc b/8).toNat default) false)=0:=(by rw[if_pos a2,Bool.and_false];rfl);omega};{have e1:M.one (M.comes b&&M.lackS (x.Pages.getD (M.wad b/8).toNat default) (M.isSt b))=1:=(by rw[a1,a2,a3];rfl);have e2:M.one (M.comes b&&if(M.wad b/8).toNat=p then false else M.lackS (x.Pages.getD (M.wad b/8).toNat default) (M.isSt b))=0:=(by rw[if_pos a2,Bool.and_false];rfl);omega}
theorem aGh(hs:SmallH h)(l:Live h g x)(hk:M.lacks (M.xExit h.Words x)=true)(ha:(M.answered h g (M.xExit h.Words x)).2=true):
 ∃f,0<=(M.xExit h.Words x).Page/\(M.xExit h.Words x).Page<=7/\0<=f/\f<20/\M.answered h g (M.xExit h.Words x)=(M.inFrame h g (M.xExit h.Words x).Page f,true)/\
  HOk (M.inFrame h g (M.xExit h.Words x).Page f)/\
  (((x.Pages.getD (M.xExit h.Words x).Page.toNat default).Frame=f/\M.many (M.slots h.Guests) f=1)\/M.many (M.slots h.Guests) f=0)/\
  M.cnt (gK x (M.xExit h.Words x).Page.toNat f).Pages (M.vw h.Words x)<M.cnt x.Pages (M.vw h.Words x):=by
 rcases aKg l with⟨hw,t,t0,t1,hpg,hf,hc⟩|⟨hw,t,t0,t1,hpg,hf,hwr,hc,ht,hst⟩|⟨hc,_⟩
 · have ea:M.answered h g (M.xExit h.Words x)=M.hostFill h g (M.xExit h.Words x).Page:=by unfold M.answered;rw[hw];rfl
   rw[ea]at ha ⊢;obtain⟨x',l',p0,p1,hcs⟩:=aYo hs ha;have ex:x'=x:=l'.at_.symm.trans l.at_;subst ex;rcases hcs with⟨_,hne⟩|⟨f,f0,f1,hm,e⟩;{rw[hpg]at hne;exact absurd hf hne}
   · refine⟨f,p0,p1,f0,f1,e,aQj l p0 p1 f0 f1 (by rw[hm,if_neg (aLg l (by omega) hm)]),.inr hm,aXk l (by omega) f0 ?_⟩
     have hlk:∀w,M.lackS (x'.Pages.getD (M.xExit h.Words x').Page.toNat default) w=true:=λw=>by unfold M.lackS;rw[hpg,dT hf];rfl
     rcases hc with⟨h1,h2⟩|⟨h1,h2⟩;{exact .inl ⟨h1,by rw[hpg,h2],hlk _⟩};{exact .inr ⟨h1,by rw[hpg,h2],hlk _⟩}
 · have ea:M.answered h g (M.xExit h.Words x)=M.hostCopy h g (M.xExit h.Words x).Page:=by unfold M.answered;rw[hw];rfl
   rw[ea]at ha ⊢;obtain⟨x',f,l',p0,p1,f0,f1,e,hcs⟩:=aYf hs ha;have ex:x'=x:=l'.at_.symm.trans l.at_;subst ex;have hmf:M.many (M.slots h.Guests) f=if(x'.Pages.getD (M.xExit h.Words x').Page.toNat default).Frame=f then 1 else 0:=by rcases hcs with⟨q,hm⟩|hm;{rw[if_pos q,hm]};{rw[if_neg (aLg l (by omega) hm),hm]}
   refine⟨f,p0,p1,f0,f1,e,aQj l p0 p1 f0 f1 hmf,hcs,aXk l (by omega) f0 (.inr ⟨hc,by rw[hpg,ht],?_⟩)⟩;unfold M.lackS;rw[hpg,hst,hwr];simp
 {rcases hc with hc|⟨hc,_⟩<;>rw[hc]at hk<;>cases hk}
end
structure Rdy (h : DHost) (g : Int) (x : DGuest) (h' : DHost) (x' : DGuest) : Prop where
 small:SmallH h'
 live:Live h' g x'
 views:∀k:Nat,k<3->M.hostView h' (k:Int)=M.hostView h (k:Int)
 same:M.vw h'.Words x'=M.vw h.Words x
 none:M.cnt x'.Pages (M.vw h'.Words x')=0
 dirt:∀p:Nat,(x'.Pages.getD p default).Dirty=(x.Pages.getD p default).Dirty
theorem bDp{x:DGuest}{p q:Nat}{f:Int}(hl:x.Pages.length=8)(hp:p<8):((gK x p f).Pages.getD q default).Dirty=(x.Pages.getD q default).Dirty:=by show((x.Pages.set p _).getD q default).Dirty=_;by_cases e:p=q;{subst e;rw[aW (by rw[lS];omega),List.getElem_set_self]};{simp only[List.getD_eq_getElem?_getD,List.getElem?_set];rw[if_neg e]}
theorem aIq{g:Int}:∀{n:Nat} {h:DHost} {x:DGuest},SmallH h->Live h g x->M.cnt x.Pages (M.vw h.Words x)<=n->M.ready g n h=none\/∃h' x',M.ready g n h=some h'/\Rdy h g x h' x'
 |0,h,x,hs,l,hc=> .inr ⟨h,x,rfl,hs,l,λ_ _=>rfl,rfl,by omega,λ_=>rfl⟩
 |n+1,h,x,hs,l,hc=>by unfold M.ready;rw[wF l];(cases hk:M.lacks (M.xExit h.Words x)with|false=>refine .inr ⟨h,x,rfl,hs,l,λ_ _=>rfl,rfl,?_,λ_=>rfl⟩;rcases aKg l with⟨hw,_⟩|⟨hw,_⟩|⟨_,hz⟩;{unfold M.lacks at hk;rw[hw]at hk;cases hk};{unfold M.lacks at hk;rw[hw]at hk;cases hk};{exact hz}|true=>rw[cTq];(cases ha:(M.answered h g (M.xExit h.Words x)).2 with|false=>exact .inl rfl|true=>obtain⟨f,p0,p1,f0,f1,e,hok,hm,hlt⟩:=aGh hs l hk ha;have l2:=aKs hs l p0 p1 f0 f1 hok;have hs2:=yW (p:=(M.xExit h.Words x).Page) (f:=f) hs l f0 f1;have hv:∀k:Nat,k<3->M.hostView (M.inFrame h g (M.xExit h.Words x).Page f) (k:Int)=M.hostView h (k:Int):=λk hk=>aZd hs l p0 p1 f0 f1 hok (hm.imp And.left id) hk;have g0:=l.lo;have g1:=l.hi;have hv2:=hv g.toNat (by omega);rw[show((g.toNat:Nat):Int)=g by omega,xV l,xV l2]at hv2;have hvw:=congrArg Prod.fst hv2;simp only at hvw;rw[e,cTq];rcases aIq (n:=n) hs2 l2 (by rw[hvw];omega)with hr|⟨h',x',hr,r⟩;{exact .inl hr};{exact .inr ⟨h',x',hr,r.small,r.live,λk hk=>(r.views k hk).trans (hv k hk),r.same.trans hvw,r.none,λp=>(r.dirt p).trans (bDp l.pages (by omega))⟩}))
theorem aWe{ps:List DSlot}{b:DBare}:M.cnt ps b<=2:=by
 have:∀a,M.one a<=1:=λa=>by cases a<;>decide
 unfold M.cnt;have h1:=this (M.reads b&&M.lackS (ps.getD (M.wpc b/8).toNat default) false);have h2:=this (M.comes b&&M.lackS (ps.getD (M.wad b/8).toNat default) (M.isSt b));omega
theorem aVy(b:DBare):M.step b=(bif b.C.Stopped then b
 else bif (M.tick b.C).Waits&&(M.tick b.C).On then M.with_ b (M.trap (M.quiet (M.tick b.C)) b.C.Pc 4 0)
 else bif decide (M.wpc b=-1)then M.with_ b (M.trap (M.tick b.C) b.C.Pc 2 b.C.Pc)
 else M.did (M.with_ b (M.tick b.C)) (M.inst b)):=by
 unfold M.step M.inst M.wpc;rw[aNq,tC,aNo]
theorem aQe(b:DBare)(i:DIns)(h:i.Op=3\/i.Op=4):M.did b i=M.mdo b i:=by unfold M.did;rcases h with h|h<;>rw[h]<;>rfl
theorem aQz(b:DBare)(i:DIns)(h3:i.Op≠3)(h4:i.Op≠4):M.did b i=bif M.kern i.Op then bif b.C.User then M.with_ b (M.trap b.C b.C.Pc 3 0)else M.kdo b i else M.with_ b (M.plain b.C i):=by unfold M.did;rw[dF h3,dF h4];rfl
theorem aSs(b:DBare)(ho:(M.inst b).Op=3\/(M.inst b).Op=4):M.mdo (M.with_ b (M.tick b.C)) (M.inst b)=
 (bif decide (M.wad b=-1)then M.with_ b (M.trap (M.tick b.C) b.C.Pc 2 (M.adr b))
  else bif M.isSt b then⟨M.go (M.tick b.C),b.Mem.set (M.wad b).toNat (M.reg b.C (M.inst b).A),b.In,b.Out⟩
  else M.with_ b (M.go (M.put (M.tick b.C) (M.inst b).A (b.Mem.getD (M.wad b).toNat default)))):=by
 unfold M.mdo M.wad M.adr M.isSt;simp only[M.with_,aNq,tC,aNo,aHc];rcases ho with h|h<;>rw[h]<;>rfl
theorem bFy(b:DBare):(M.step b).Mem=bif M.wrote b then b.Mem.set (M.wad b).toNat (M.reg b.C (M.inst b).A)else b.Mem:=by rw[aVy];unfold M.wrote M.comes M.reads M.busy;(cases b.C.Stopped with|true=>rfl|false=>(cases(M.tick b.C).Waits&&(M.tick b.C).On with|true=>rfl|false=>(cases decide (M.wpc b=-1)with|true=>rfl|false=>simp only[cFq,Bool.false_or,bF,Bool.true_and];by_cases ho:(M.inst b).Op=3\/(M.inst b).Op=4;{rw[aQe _ _ ho,aSs b ho];have eo:(decide ((M.inst b).Op=3)||M.isSt b)=true:=(by unfold M.isSt;simpa using ho);rw[eo,Bool.true_and];(cases decide (M.wad b=-1)with|true=>rfl|false=>cases M.isSt b<;>rfl)};{obtain⟨n3,n4⟩:=not_or.1 ho;rw[aQz _ _ n3 n4];have eo:(decide ((M.inst b).Op=3)||M.isSt b)=false:=(by unfold M.isSt;rw[dF n3,dF n4];rfl);rw[eo];simp only[Bool.false_and,cFq];(cases M.kern (M.inst b).Op with|false=>rfl|true=>(cases(M.with_ b (M.tick b.C)).C.User with|true=>rfl|false=>exact aWg _ _))})))
section
variable {h : DHost} {g : Int} {x : DGuest}
theorem aJp{y:DGuest}:∀{gs:List DGuest} {i:Nat},i<gs.length->y.Pages=(gs.getD i default).Pages->M.slots (gs.set i y)=M.slots gs
 |[],i,h,_=>by simp at h
 |z::gs,0,_,h=>by rw[List.set_cons_zero];simp only[M.slots,List.flatMap_cons];rw[h];rfl
 |z::gs,i+1,hi,h=>by rw[List.set_cons_succ];have:=aJp (y:=y) (gs:=gs) (i:=i) (by simpa using hi) h;simp only[M.slots,List.flatMap_cons]at this ⊢;rw[this]
theorem bJy{b:DBare}(h:BOk b):M.coreOk b.C=true/\M.rowOk b.In=true/\M.rowOk b.Out=true:=by have:=aFp.2 h;unfold M.bareOk at this;simp only[bA]at this;exact⟨this.1.1.1,this.1.2,this.2⟩
theorem aQn(l:Live h g x){b:DBare}(hb:BOk b){ps:List DSlot}(h8:ps.length=8)(hp:ps.all M.slotOk=true):M.guestOk ⟨x.Live,b.C,ps,b.In,b.Out⟩=true:=by obtain⟨h1,h2,h3⟩:=bJy hb;unfold M.guestOk;simp only;rw[l.live,h1,h2,h3,hp,dT h8];rfl
theorem bEi(l:Live h g x){y:DGuest}(hy:M.guestOk y=true):(h.Guests.set g.toNat y).all M.guestOk=true:=by rw[List.all_eq_true];intro z hz;rcases List.mem_or_eq_of_mem_set hz with hz|rfl;{exact List.all_eq_true.1 l.ok.all z hz};{exact hy}
theorem qH(l:Live h g x){y:DGuest}{k:Nat}(hk:k<3):(h.Guests.set g.toNat y).getD k default=if(k:Int)=g then y else h.Guests.getD k default:=by have h3:=l.ok.three;have g0:=l.lo;have g1:=l.hi;rw[List.getD_eq_getElem?_getD,List.getElem?_set];by_cases e:(k:Int)=g;{rw[if_pos e,if_pos (by omega),if_pos (by omega)];rfl};{rw[if_neg e,if_neg (by omega),<-List.getD_eq_getElem?_getD]}
theorem bBo(l:Live h g x){b:DBare}(hb:BOk b):HOk (M.withM h g x b):=by have h3:=l.ok.three;have g0:=l.lo;have g1:=l.hi;refine⟨l.ok.len,l.ok.words,by show(h.Guests.set _ _).length=3;rw[lS];exact h3,bEi l (aQn l hb l.pages l.slots),?_⟩;show M.alone (M.slots (h.Guests.set _ _))=true;rw[aJp (by omega) (by rw[l.at_])];exact l.ok.alone
theorem aOe(hs:SmallH h){ws:List Int}{y:DGuest}(hw:ws.length<=1048576)(hy:SmallG y):SmallH ⟨ws,h.Guests.set g.toNat y⟩:=by refine⟨hw,by show(h.Guests.set _ _).length<=_;rw[lS];exact hs.guests,λz hz=>?_⟩;rcases List.mem_or_eq_of_mem_set hz with hz|rfl;{exact hs.all z hz};{exact hy}
theorem aGu{b:DBare}(hb:BOk b){v:Bool}{ps:List DSlot}(h8:ps.length=8):SmallG ⟨v,b.C,ps,b.In,b.Out⟩:=⟨⟨by have:=hb.regs;show b.C.Regs.length<=_;omega⟩,by show ps.length<=_;omega,by have:=hb.inn;show b.In.length<=_;omega,by have:=hb.out;show b.Out.length<=_;omega⟩
theorem aUd(hs:SmallH h)(l:Live h g x){b:DBare}(hb:BOk b):SmallH (M.withM h g x b):=aOe hs hs.words (aGu hb l.pages)
theorem aPt(l:Live h g x){h':DHost}(hok:HOk h'){y:DGuest}(hy:y.Live=true)(he:h'.Guests=h.Guests.set g.toNat y):M.hostView h' g=(M.vw h'.Words y,true):=by have g0:=l.lo;have g1:=l.hi;have e:h'.Guests.getD g.toNat default=y:=(by rw[he,qH l (by omega),if_pos (by omega)]);unfold M.hostView;rw[nQ.2 ⟨hok,g0,g1,by rw[e];exact hy⟩,cTq,e];rfl
theorem aJs (l:Live h g x) {h':DHost} (hok:HOk h') {y:DGuest} (he:h'.Guests=h.Guests.set g.toNat y) {k:Nat} (hk:k<3) (hn:(k:Int)≠g)
 (hm:(h.Guests.getD k default).Live=true->M.mem h'.Words (h.Guests.getD k default).Pages=M.mem h.Words (h.Guests.getD k default).Pages):M.hostView h' (k:Int)=M.hostView h (k:Int):=by
 have e:h'.Guests.getD (Int.toNat (k:Int)) default=h.Guests.getD (Int.toNat (k:Int)) default:=(by rw[iT,he,qH l hk,if_neg hn]);unfold M.hostView M.there;rw[e,fF.2 hok,fF.2 l.ok,Bool.true_and];(cases hl:(h.Guests.getD (Int.toNat (k:Int)) default).Live with|false=>rw[Bool.and_false];rfl|true=>rw[iT]at hl ⊢;rw[hm hl])
theorem aJc(hs:SmallH h)(l:Live h g x){p:Nat}(hp:p<8)(hw:(x.Pages.getD p default).Write=true)(hf:(x.Pages.getD p default).Frame≠-1){k q:Nat}(hk:k<3)(hq:q<(h.Guests.getD k default).Pages.length)(hne:(k:Int)≠g\/q≠p):((h.Guests.getD k default).Pages.getD q default).Frame≠(x.Pages.getD p default).Frame:=by intro he;have h3:=l.ok.three;have g0:=l.lo;have g1:=l.hi;have hpl:=l.pages;have hsl:=bU l hp;have ha:=List.all_eq_true.1 l.ok.alone _ (aNp l hp);rw[hw,bT,Bool.false_or,decide_eq_true_eq]at ha;have hm:=aSt l hp (f:=-7) (q:=(x.Pages.getD p default).Frame);rw[if_pos rfl,if_neg (by omega)]at hm;have hz:M.many (M.slots (h.Guests.set g.toNat (gK x p (-7)))) (x.Pages.getD p default).Frame=0:=(by omega);have hpos:0<M.many (M.slots (h.Guests.set g.toNat (gK x p (-7)))) (x.Pages.getD p default).Frame:=(by unfold M.many;refine List.countP_pos_iff.2 ⟨(h.Guests.getD k default).Pages.getD q default,?_,by simpa using he⟩;by_cases e:(k:Int)=g;{have ek:h.Guests.getD k default=x:=(by rw[<-l.at_];congr 1;omega);rw[ek]at hq ⊢;refine List.mem_flatMap.2 ⟨gK x p (-7),?_,?_⟩;{have:=cB (xs:=h.Guests.set g.toNat (gK x p (-7))) (k:=k) (by rw[lS];omega);rwa[qH l hk,if_pos e]at this};{have hqp:q≠p:=hne.resolve_left (λn=>n e);have:(gK x p (-7)).Pages.getD q default=x.Pages.getD q default:=(by show(x.Pages.set p _).getD q default=_;simp only[List.getD_eq_getElem?_getD,List.getElem?_set];rw[if_neg (by omega)]);rw[<-this];exact cB (by show q<(x.Pages.set p _).length;rw[lS];exact hq)}};{refine List.mem_flatMap.2 ⟨h.Guests.getD k default,?_,cB hq⟩;have:=cB (xs:=h.Guests.set g.toNat (gK x p (-7))) (k:=k) (by rw[lS];omega);rwa[qH l hk,if_neg e]at this});omega
theorem aHf{a:Bool}(h:M.one a=0):a=false:=by cases a;rfl;cases h
structure Wr (h : DHost) (x : DGuest) (t : Int) : Prop where
 lo:0<=t
 hi:t<64
 frame:(x.Pages.getD (t/8).toNat default).Frame≠-1
 write:(x.Pages.getD (t/8).toNat default).Write=true
theorem bFd(l:Live h g x)(hc:M.cnt x.Pages (M.vw h.Words x)=0)(hw:M.wrote (M.vw h.Words x)=true):Wr h x (M.wad (M.vw h.Words x))/\0<=(M.inst (M.vw h.Words x)).A/\(M.inst (M.vw h.Words x)).A<4:=by have hb:=lG l;unfold M.wrote at hw;rw[bA]at hw;obtain⟨h1,h2⟩:=hw;have c2:=aHf (Nat.eq_zero_of_add_eq_zero_left hc);rw[h1,h2,Bool.true_and]at c2;unfold M.lackS at c2;rw[Bool.true_and,Bool.or_eq_false_iff,decide_eq_false_iff_not,Bool.not_eq_false']at c2;unfold M.comes at h1;simp only[bA,Bool.not_eq_true',decide_eq_false_iff_not]at h1;have hwt:=qY _ _ _ _ _ h1.2;have hr:=h1.1.1;unfold M.reads at hr;simp only[bA,Bool.not_eq_true',decide_eq_false_iff_not]at hr;have hwp:=qY _ _ _ _ _ hr.2;have hm:=tD hb hwp.1 hwp.2;have hi:=aCl hm.1 hm.2;simp only[M.insOk,bA,M.inR_iff]at hi;refine⟨⟨hwt.1,hwt.2,c2.1,c2.2⟩,hi.1.2.1,Int.lt_of_le_of_lt hi.1.2.2 (by decide)⟩
theorem aAr{p q:Nat}(hl:x.Pages.length=8)(hp:p<8):(x.Pages.set p (M.dirty x p)).getD q default=if q=p then M.dirty x p else x.Pages.getD q default:=by simp only[List.getD_eq_getElem?_getD,List.getElem?_set];by_cases e:q=p;{subst e;rw[if_pos rfl,if_pos rfl,if_pos (by omega)];rfl};{rw[if_neg (by omega),if_neg e]}
theorem aUp{p q:Nat}(hl:x.Pages.length=8)(hp:p<8):((x.Pages.set p (M.dirty x p)).getD q default).Frame=(x.Pages.getD q default).Frame:=by rw[aAr hl hp];split;{rename_i e;rw[e];rfl};{rfl}
theorem bEy(l:Live h g x){p:Nat}(hp:p<8)(hf:(x.Pages.getD p default).Frame≠-1):(x.Pages.set p (M.dirty x p)).all M.slotOk=true:=by rw[List.all_eq_true];intro s hs;rcases List.mem_or_eq_of_mem_set hs with hs|rfl;{exact List.all_eq_true.1 l.slots s hs};{have:=bU l hp;unfold M.slotOk M.dirty;simp only;rw[dF hf,cFq,dT (by omega),dT this.2];rfl}
theorem bCe(hs:SmallH h)(l:Live h g x){t:Int}(hw:Wr h x t){w:Int}{ps:List DSlot}(hf:∀q,(ps.getD q default).Frame=(x.Pages.getD q default).Frame):
 M.mem (h.Words.set ((x.Pages.getD (t/8).toNat default).Frame*8+t%8).toNat w) ps=(M.mem h.Words x.Pages).set t.toNat w:=by
 have g0:=l.lo;have g1:=l.hi;have hpl:=l.pages;have hlw:=l.ok.len;have t0:=hw.lo;have t1:=hw.hi;have hfr:=hw.frame;have hrt:=bU l (p:=(t/8).toNat) (by omega);refine tE (n:=64) fE (by rw[lS,fE]) λa ha=>?_;rw[iR ha,wP (by rw[fE];omega),iR ha];have hr:=bU l (p:=a/8) (by omega);unfold M.word;rw[hf];by_cases e:t.toNat=a;{rw[if_pos e,show a/8=(t/8).toNat by omega,if_neg (by omega),wP (by omega),if_pos (by omega)]}
 · rw[if_neg e]
   split;{rfl}
   · rw[wP (by omega),if_neg]
     intro e2;have hne:a/8≠(t/8).toNat:=λe3=>by rw[e3]at e2;omega
     have:=aJc hs l (p:=(t/8).toNat) (by omega) hw.write hfr (k:=g.toNat) (q:=a/8) (by omega) (by rw[l.at_];omega) (.inr hne);rw[l.at_]at this;omega
theorem bDc(hs:SmallH h)(l:Live h g x){t:Int}(hw:Wr h x t){w:Int}{k:Nat}(hk:k<3)(hn:(k:Int)≠g)(hl:(h.Guests.getD k default).Live=true):
 M.mem (h.Words.set ((x.Pages.getD (t/8).toNat default).Frame*8+t%8).toNat w) (h.Guests.getD k default).Pages=M.mem h.Words (h.Guests.getD k default).Pages:=by
 have g0:=l.lo;have g1:=l.hi;have hlw:=l.ok.len;have t0:=hw.lo;have t1:=hw.hi;have hfr:=hw.frame;have hrt:=bU l (p:=(t/8).toNat) (by omega);have lk:=dC (g:=(k:Int)) hs (nQ.2 ⟨l.ok,by omega,by omega,by rw[iT];exact hl⟩);rw[iT]at lk;have hpk:=lk.pages;refine tE (n:=64) fE fE λa ha=>?_;rw[iR ha,iR ha];have hr:=bU lk (p:=a/8) (by omega);unfold M.word;split;{rfl};{rw[wP (by omega),if_neg];intro e2;exact aJc hs l (p:=(t/8).toNat) (by omega) hw.write hfr (k:=k) (q:=a/8) hk (by omega) (.inl hn) (by omega)}
structure Ran (h : DHost) (g : Int) (x : DGuest) (y : DGuest) : Prop where
 ok:HOk (M.ran h g x)
 small:SmallH (M.ran h g x)
 at_:(M.ran h g x).Guests.getD g.toNat default=y
 view:M.hostView (M.ran h g x) g=(M.step (M.vw h.Words x),true)
 others:∀k:Nat,k<3->(k:Int)≠g->M.hostView (M.ran h g x) (k:Int)=M.hostView h (k:Int)
 pages:y.Pages.length=8
 dirt:∀q:Nat,(x.Pages.getD q default).Dirty=true->(y.Pages.getD q default).Dirty=true
 told:∀a:Nat,a<64->(M.mem h.Words x.Pages).getD a default≠(M.step (M.vw h.Words x)).Mem.getD a default->(y.Pages.getD (a/8) default).Dirty=true
theorem bNb(hs:SmallH h)(l:Live h g x)(hc:M.cnt x.Pages (M.vw h.Words x)=0):∃y,Ran h g x y:=by
 have h3:=l.ok.three;have g0:=l.lo;have g1:=l.hi;have hpl:=l.pages;have hlw:=l.ok.len;have hb:=lG l;have hst:=aEv hb;have hsm:=bFy (M.vw h.Words x);cases hw:M.wrote (M.vw h.Words x)with
 |false=>rw[hw,cFq]at hsm;have er:M.ran h g x=M.withM h g x (M.step (M.vw h.Words x)):=(by unfold M.ran;rw[hw];rfl);have hok:=bBo l hst;have hvs:=aPt l hok (y:=⟨x.Live,(M.step (M.vw h.Words x)).C,x.Pages,(M.step (M.vw h.Words x)).In,(M.step (M.vw h.Words x)).Out⟩) l.live rfl;refine⟨⟨x.Live,(M.step (M.vw h.Words x)).C,x.Pages,(M.step (M.vw h.Words x)).In,(M.step (M.vw h.Words x)).Out⟩,by rw[er];exact hok,by rw[er];exact aUd hs l hst,?_,?_,λk hk hn=>?_,hpl,λq hq=>hq,λa ha hne=>?_⟩;{rw[er];have:=qH l (y:=⟨x.Live,(M.step (M.vw h.Words x)).C,x.Pages,(M.step (M.vw h.Words x)).In,(M.step (M.vw h.Words x)).Out⟩) (k:=g.toNat) (by omega);rw[if_pos (by omega)]at this;exact this};{rw[er,hvs];have:M.mem h.Words x.Pages=(M.step (M.vw h.Words x)).Mem:=hsm.symm;show((⟨_,M.mem h.Words x.Pages,_,_⟩:DBare),true)=_;rw[this]};{rw[er];exact aJs l hok rfl hk hn λ_=>rfl};{rw[hsm]at hne;exact absurd rfl hne}
 |true=>
  rw[hw,cTq]at hsm;obtain⟨hwr,a0,a1⟩:=bFd l hc hw;have t0:=hwr.lo;have t1:=hwr.hi;have hg:=hb.reg a0 a1;have hrt:=bU l (p:=(M.wad (M.vw h.Words x)/8).toNat) (by omega);have er:M.ran h g x=⟨h.Words.set ((x.Pages.getD (M.wad (M.vw h.Words x)/8).toNat default).Frame*8+M.wad (M.vw h.Words x)%8).toNat (M.reg x.C (M.inst (M.vw h.Words x)).A),h.Guests.set g.toNat ⟨x.Live,(M.step (M.vw h.Words x)).C,x.Pages.set (M.wad (M.vw h.Words x)/8).toNat (M.dirty x (M.wad (M.vw h.Words x)/8).toNat),(M.step (M.vw h.Words x)).In,(M.step (M.vw h.Words x)).Out⟩⟩:=(by unfold M.ran;rw[hw];rfl);generalize hy:(⟨x.Live,(M.step (M.vw h.Words x)).C,x.Pages.set (M.wad (M.vw h.Words x)/8).toNat (M.dirty x (M.wad (M.vw h.Words x)/8).toNat),(M.step (M.vw h.Words x)).In,(M.step (M.vw h.Words x)).Out⟩:DGuest)=y at er;have yl:y.Live=true:=(by rw[<-hy];exact l.live);have yp:y.Pages=x.Pages.set (M.wad (M.vw h.Words x)/8).toNat (M.dirty x (M.wad (M.vw h.Words x)/8).toNat):=(by rw[<-hy]);have yp8:y.Pages.length=8:=(by rw[yp,lS];exact hpl);have yg:M.guestOk y=true:=(by rw[<-hy];exact aQn l hst (by rw[lS];exact hpl) (bEy l (by omega) hwr.frame));have yf:∀q,(y.Pages.getD q default).Frame=(x.Pages.getD q default).Frame:=λq=>by rw[yp];exact aUp hpl (by omega)
  have hmany:∀f,M.many (M.slots (h.Guests.set g.toNat y)) f=M.many (M.slots h.Guests) f:=λf=>by have h1:=aEf (x:=y) (f:=f) (gs:=h.Guests) (i:=g.toNat) (by omega);have h2:=aDt (s':=M.dirty x (M.wad (M.vw h.Words x)/8).toNat) (f:=f) (ps:=x.Pages) (j:=(M.wad (M.vw h.Words x)/8).toNat) (by omega);rw[l.at_,yp]at h1;rw[show(M.dirty x (M.wad (M.vw h.Words x)/8).toNat).Frame=(x.Pages.getD (M.wad (M.vw h.Words x)/8).toNat default).Frame from rfl]at h2;omega
  have hok:HOk (M.ran h g x):=(by rw[er];refine⟨by show(h.Words.set _ _).length=160;rw[lS];exact hlw,yR l.ok.words hg.1 hg.2,by show(h.Guests.set _ _).length=3;rw[lS];exact h3,bEi l yg,?_⟩;have ha:=l.ok.alone;simp only[M.alone,List.all_eq_true,Bool.or_eq_true,Bool.not_eq_true',decide_eq_true_eq]at ha ⊢;intro s hsm2;rw[hmany];rcases aNy hsm2 with h1|h1;{exact ha s h1};{rw[yp]at h1;rcases List.mem_or_eq_of_mem_set h1 with h1|rfl;{refine ha s (List.mem_flatMap.2 ⟨x,?_,h1⟩);rw[<-l.at_];exact cB (by omega)};{have hd:=ha _ (aNp l (p:=(M.wad (M.vw h.Words x)/8).toNat) (by omega));exact hd}});have hat:(M.ran h g x).Guests.getD g.toNat default=y:=(by rw[er];have:=qH l (y:=y) (k:=g.toNat) (by omega);rw[if_pos (by omega)]at this;exact this);refine⟨y,hok,?_,hat,?_,λk hk hn=>?_,yp8,λq hq=>?_,λa ha hne=>?_⟩;{rw[er];refine aOe hs (by rw[lS];exact hs.words) ?_;rw[<-hy];exact aGu hst (by rw[lS];exact hpl)};{rw[aPt l hok yl (by rw[er])];have hm:=bCe hs l hwr (w:=M.reg x.C (M.inst (M.vw h.Words x)).A) yf;have e1:(M.ran h g x).Words=h.Words.set ((x.Pages.getD (M.wad (M.vw h.Words x)/8).toNat default).Frame*8+M.wad (M.vw h.Words x)%8).toNat (M.reg x.C (M.inst (M.vw h.Words x)).A):=(by rw[er]);show((⟨y.C,M.mem (M.ran h g x).Words y.Pages,y.In,y.Out⟩:DBare),true)=_;have hsm2:(M.mem h.Words x.Pages).set (M.wad (M.vw h.Words x)).toNat (M.reg x.C (M.inst (M.vw h.Words x)).A)=(M.step (M.vw h.Words x)).Mem:=hsm.symm;rw[e1,hm,hsm2,<-hy]};{exact aJs l hok (y:=y) (by rw[er]) hk hn λhlv=>by rw[er];exact bDc hs l hwr hk hn hlv};{rw[yp,aAr hpl (by omega)];split;{rfl};{exact hq}};{rw[hsm]at hne;have e:a=(M.wad (M.vw h.Words x)).toNat:=(by refine Classical.byContradiction λe=>hne ?_;show _=((M.mem h.Words x.Pages).set _ _).getD a default;rw[wP (by rw[fE];omega),if_neg (by omega)]);rw[yp,aAr hpl (by omega),if_pos (by omega)];rfl}
end
section
variable {h : DHost} {g : Int} {x : DGuest}
theorem xT(l:Live h g x){a:Int}(a0:0<=a)(a1:a<=63):fD h g a=some (M.shadeAt h.Words x a):=by unfold fD M.shadeAt;rw[Int.tdiv_eq_ediv_of_nonneg a0,aC (by omega) (by omega),show a/8=(((a/8).toNat:Nat):Int) by omega,bCj l (by omega),iT];rfl
theorem pP(l:Live h g x){a:Int}{w:Bool}(a0:0<=a)(a1:a<=63):cU h g a w=some (M.placeAt h.Words x a w):=by have:=l.ok.three;have:=l.lo;have:=l.hi;have hf:-1<=(M.shadeAt h.Words x a).Frame/\(M.shadeAt h.Words x a).Frame<20:=aUm l (p:=(a/8).toNat) (by omega);unfold cU;rw[xT l a0 a1,oB,aB ⟨l.lo,by omega⟩,l.at_,aPr a0 a1 hf.1 hf.2];rfl
theorem aBz(l:Live h g x){a why:Int}(a0:0<=a)(a1:a<=63):gH h g a why=some (M.aExit (M.shadeAt h.Words x a) why):=by unfold gH M.aExit;rw[xT l a0 a1,oB];cases decide (why=2)<;>cases decide (why=3)<;>rfl
theorem xW{c:DCore}{n:Int}:0<=M.reg c n%64/\M.reg c n%64<=63:=by omega
theorem bDj(l:Live h g x){i:DIns}(hi:M.insOk i=true):oF h g i=some (M.iExit h.Words x i):=by have:=l.ok.three;have:=l.lo;have:=l.hi;have hb:=lG l;have hi2:=hi;obtain⟨op,a,n⟩:=i;simp only[M.insOk,bA,M.inR_iff]at hi2;have had:cC x.C ⟨op,a,n⟩=some (M.reg x.C (n%4)%64):=tP (b:=M.vw h.Words x) hb.k hi2.2.1;have rest:pG h g ⟨op,a,n⟩ ()=some (bif decide (op=3)||decide (op=4)then M.aExit (M.shadeAt h.Words x (M.reg x.C (n%4)%64)) (M.placeAt h.Words x (M.reg x.C (n%4)%64) (decide (op=4))).2 else M.e0):=(by have more:pE h g ⟨op,a,n⟩ ()=some (M.aExit (M.shadeAt h.Words x (M.reg x.C (n%4)%64)) (M.placeAt h.Words x (M.reg x.C (n%4)%64) (decide (op=4))).2):=(by unfold pE;simp only[l.at_];show Option.bind (cC x.C ⟨op,a,n⟩) _=_;rw[had,oB,pP l xW.1 xW.2,oB,aBz l xW.1 xW.2];rfl);unfold pG;by_cases h3:op=3;{simp only[dT h3,bT,cFq,oB,JO.run,Bool.true_or,cTq];exact more};{by_cases h4:op=4;{simp only[dF h3,dT h4,bT,bF,cTq,cFq,oB,JO.run,Bool.or_true];rw[dT h4]at more;exact more};{simp only[dF h3,dF h4,bF,cTq,oB,JO.run,Bool.or_false,cFq];rfl}});unfold oF M.iExit;rw[aB ⟨l.lo,by omega⟩,aGw hi,oB,l.at_];(cases M.kern op with|false=>simp only[cFq,oB,JO.run,Bool.false_and];exact rest|true=>(cases x.C.User with|false=>rfl|true=>simp only[bT,cTq,cFq,oB,JO.run,Bool.and_false];exact rest))
theorem aYm(l:Live h g x){a:Int}{w:Bool}(a0:0<=a)(a1:a<=63)(h2:(M.placeAt h.Words x a w).2=0):0<=(M.placeAt h.Words x a w).1/\(M.placeAt h.Words x a w).1<160:=by rcases rX l (w:=w) a0 a1 rfl with⟨_,hp⟩|⟨t0,t1,_,hp⟩;{rw[hp]at h2;cases h2};{have hr:=bU l (p:=(M.walk (M.mem h.Words x.Pages) x.C.Root a x.C.User w/8).toNat) (by omega);rw[hp]at h2 ⊢;generalize(x.Pages.getD (M.walk (M.mem h.Words x.Pages) x.C.Root a x.C.User w/8).toNat default)=s at hr h2 ⊢;by_cases e:s.Frame=-1;{rw[dT e]at h2;cases h2};{rw[dF e,cFq]at h2 ⊢;(cases hw:w&&!s.Write with|true=>rw[hw]at h2;cases h2|false=>rw[cFq];simp only;omega)}}
theorem bIz(l:Live h g x):M.coreOk x.C=true/\(0<=x.C.Pc/\x.C.Pc<=63)/\(0<=x.C.Timer/\x.C.Timer<=4095):=⟨l.core,(lG l).pc,(lG l).timer⟩
theorem aRg(l:Live h g x):lX h g=some (M.xExit h.Words x):=by have:=l.ok.three;have:=l.lo;have:=l.hi;have hlw:=l.ok.len;obtain⟨_,hpc,htm⟩:=bIz l;unfold lX M.xExit M.busy;rw[aB ⟨l.lo,by omega⟩,l.at_];show cond x.C.Stopped _ (Option.bind (fG x.C) _)=_;(cases x.C.Stopped with|true=>rfl|false=>rw[cFq];rw[aHu htm.1 htm.2,oB,sC,oB];(cases(M.tick x.C).Waits&&(M.tick x.C).On with|true=>rfl|false=>simp only[Bool.or_false,cFq];rw[pP l hpc.1 hpc.2,oB];by_cases h2:(M.placeAt h.Words x x.C.Pc false).2=0;{have hpl:=aYm l hpc.1 hpc.2 h2;have hw:=iK l.ok.words (i:=(M.placeAt h.Words x x.C.Pc false).1.toNat) (by omega);rw[dT h2,bT,cFq,cFq,aB ⟨hpl.1,by omega⟩,aDp hw.1 hw.2,oB,bDj l (aCl hw.1 hw.2)];rfl};{rw[dF h2,bF,cTq,cTq,aBz l hpc.1 hpc.2];rfl}))
end
theorem aEg{xs:List Int}{a w:Int}(h:xs.length<=1048576)(h0:0<=a)(h1:a<(xs.length:Int)):iO xs a w=some (xs.set a.toNat w):=by unfold iO;rw[dY h,oB,aB ⟨h0,h1⟩]
theorem aGb{pc:Int}(h0:0<=pc)(h1:pc<=63):jA pc=some ((pc+1)%64):=by unfold jA;rw[aC (by omega) (by omega),iM (by omega)]
theorem aBk{b:DBare}(h0:0<=b.C.Pc)(h1:b.C.Pc<=63):dM b=some (M.with_ b (M.go b.C)):=by unfold dM;rw[aGb h0 h1];rfl
section
variable {b : DBare} {op a n : Int}
theorem aHs(hb:KOk b)(rs ro v ti on m i ou):dM ⟨⟨rs,b.C.Pc,ro,v,b.C.Saved,b.C.SavedUser,b.C.Cause,b.C.Bad,ti,b.C.Waits,b.C.User,on,b.C.Stopped⟩,m,i,ou⟩=some ⟨⟨rs,(b.C.Pc+1)%64,ro,v,b.C.Saved,b.C.SavedUser,b.C.Cause,b.C.Bad,ti,b.C.Waits,b.C.User,on,b.C.Stopped⟩,m,i,ou⟩:=aBk (b:=⟨⟨rs,b.C.Pc,ro,v,b.C.Saved,b.C.SavedUser,b.C.Cause,b.C.Bad,ti,b.C.Waits,b.C.User,on,b.C.Stopped⟩,m,i,ou⟩) hb.pc.1 hb.pc.2
theorem bQg(hb:KOk b) m:dM ⟨b.C,m,b.In,b.Out⟩=some ⟨M.go b.C,m,b.In,b.Out⟩:=aBk (b:=⟨b.C,m,b.In,b.Out⟩) hb.pc.1 hb.pc.2
theorem bDw{k:Int}(h0:0<=k)(h1:k<4):nZ b k=some (M.cin b k):=by unfold nZ M.cin;by_cases e1:k=1;{rw[dT e1];rfl};by_cases e2:k=2;{rw[dF e1,dT e2];rfl};by_cases e3:k=3;{rw[dF e1,dF e2,dT e3];rfl};rw[dF e1,dF e2,dF e3];simp only[cFq];(cases hi:b.In with|nil=>rfl|cons x xs=>rw[dF (by simp only[List.length_cons];omega),cFq,aB ⟨by omega,by simp only[List.length_cons];omega⟩];rfl)
theorem bLb{xs:List Int}:List.take (Int.toNat ((List.length xs:Nat):Int)-Int.toNat (1:Int)) (List.drop (Int.toNat (1:Int)) xs)=xs.drop 1:=by rw[show Int.toNat (1:Int)=1 from rfl];exact List.take_of_length_le (by simp)
theorem bFz(hb:KOk b)(a0:0<=a)(a1:a<=3)(n0:0<=n):pR b ⟨op,a,n⟩=some ⟨M.put b.C a (M.cin b (n%4)),b.Mem,M.rest b.In (n%4),b.Out⟩:=by unfold pR;simp only[aZr n0];rw[bDw (by omega) (by omega),oB,aEg (by have:=hb.regs;omega) a0 (hb.gA a0 a1).2,oB,bLb];simp only[M.rest];by_cases h:n%4=0;{rw[dT h];(cases hi:b.In with|nil=>rfl|cons x xs=>rw[dT (by simp only[List.length_cons];omega),cTq,cTq,aB ⟨by omega,by simp only[List.length_cons];omega,by omega⟩];rfl)};{rw[dF h];rfl}
theorem bEo{xs:List Int}{w:Int}(h:xs.length<=30):nW xs w=some (bif decide (xs.length<30)then xs++[w]else xs):=by unfold nW;by_cases e:xs.length<30;{rw[dF (show¬(30:Int)<=((xs.length:Nat):Int) by omega),dT e,cFq,dY (by omega),oB,aB ⟨by simp only[List.length_cons,List.length_nil];omega,by simp only[List.length_cons,List.length_nil];omega⟩];rfl};{rw[dT (show(30:Int)<=((xs.length:Nat):Int) by omega),dF e];rfl}
theorem aYi{w:Int}(h:0<=w):mL w=some (M.root w):=by unfold mL;rw[iM h,aAg];simp only[oB,M.root,M.inR];by_cases e:w%16<8;{rw[dT e,dT (show 0<=w%16 by omega),dT (show w%16<=7 by omega)];rfl};{rw[dF e,dF (show¬w%16<=7 by omega),Bool.and_false];rfl}
theorem aUi(hb:KOk b)(o0:0<=op)(o1:op<=15)(a0:0<=a)(a1:a<=3)(n0:0<=n)(hk:M.kern op=true):lH b ⟨op,a,n⟩=some (M.kdo b ⟨op,a,n⟩):=by
 have g1:=hb.reg a0 (by omega);unfold lH;rw[aB (hb.gA a0 a1)];simp only[show b.C.Regs.getD a.toNat default=M.reg b.C a from rfl];rcases aHn o0 o1 with e|e|e|e|e|e|e|e|e|e|e|e|e|e|e|e<;>subst e<;>first|(exact absurd hk (by decide))|simp only[Int.reduceEq,decide_true,decide_false,cTq,cFq,oB,JO.run,fN,M.kdo]
 {rfl};{rw[aYi g1.1];simp only[oB,JO.run,fN];rw[aHs hb];rfl};{simp only[iM g1.1];rw[aHs hb];rfl};{rw[aHs hb];rfl};{rfl};{simp only[iM n0];rw[aHs hb];rfl};{rw[bEo hb.out];simp only[oB,JO.run,fN];rw[aHs hb];rfl};{rw[bFz hb a0 a1 n0];simp only[oB,JO.run,fN,M.put];rw[aHs hb];rfl}
end
namespace M
end M
theorem bMb{b b':DBare}(h1:b'.C=b.C)(h2:b'.In=b.In)(h3:b'.Out=b.Out)(i:DIns):(M.kdo b' i).C=(M.kdo b i).C/\(M.kdo b' i).In=(M.kdo b i).In/\(M.kdo b' i).Out=(M.kdo b i).Out:=by obtain⟨c,m,n,o⟩:=b';simp only at h1 h2 h3;subst h1 h2 h3;unfold M.kdo;cases decide (i.Op=0)<;>cases decide (i.Op=8)<;>cases decide (i.Op=9)<;>cases decide (i.Op=10)<;>cases decide (i.Op=11)<;>cases decide (i.Op=12)<;>cases decide (i.Op=13)<;>exact⟨rfl,rfl,rfl⟩
theorem bFa{h:DHost}{g:Int}{x:DGuest}{b b':DBare}(h1:b'.C=b.C)(h2:b'.In=b.In)(h3:b'.Out=b.Out):M.withM h g x b'=M.withM h g x b:=by unfold M.withM;rw[h1,h2,h3]
theorem KOk.small{b:DBare}(h:KOk b)(hm:b.Mem.length<=1048576):SmallB b:=⟨⟨by have:=h.regs;omega⟩,hm,by have:=h.inn;omega,by have:=h.out;omega⟩
section
variable {h : DHost} {g : Int} {x : DGuest}
theorem aUo(l:Live h g x):lF h g=some (M.mach x):=by have:=l.ok.three;have:=l.lo;have:=l.hi;unfold lF;rw[aB ⟨l.lo,by omega⟩,l.at_];rfl
theorem aCb(hs:SmallH h)(l:Live h g x){b:DBare}(hb:SmallB b):bL h g b=some (M.withM h g x b):=by have:=l.ok.three;have:=l.lo;have:=l.hi;unfold bL;rw[hG hs l.ok,oB,aCa hb,oB,aB ⟨l.lo,by omega⟩,aB ⟨l.lo,by omega⟩,aB ⟨l.lo,by omega⟩,l.at_];have hlt:g.toNat<h.Guests.length:=(by omega);simp only[aOr hlt,List.set_set];rfl
end
section
variable {b : DBare} {op a n : Int}
theorem aSn(hb:KOk b)(a0:0<=a)(a1:a<=3)(ho:op=5\/op=6):qC b ⟨op,a,n⟩=some (M.with_ b (M.plain b.C ⟨op,a,n⟩)):=by unfold qC;rcases ho with rfl|rfl;{rfl};{simp only[decide_true,cTq];rw[aB (hb.gA a0 a1),show b.C.Regs.getD a.toNat default=M.reg b.C a from rfl];by_cases h:M.reg b.C a=0;{rw[dT h,aBk hb.pc.1 hb.pc.2];simp only[M.plain,dT h];rfl};{simp only[M.plain,dF h];rfl}}
theorem aDg(hb:KOk b)(a0:0<=a)(a1:a<=3)(n0:0<=n):oC b.C.Regs ⟨op,a,n⟩=some (bif decide (op=2)then(M.reg b.C a+M.reg b.C (n%4))%4096 else bif decide (op=15)then(M.reg b.C a-M.reg b.C (n%4)+4096)%4096 else n):=by unfold oC;have g1:=hb.reg a0 (by omega);have g2:=hb.reg (k:=n%4) (by omega) (by omega);simp only[aZr n0];rw[aB (hb.gA (by omega) (by omega)),aB (hb.gA a0 a1),aB (hb.gA a0 a1),show b.C.Regs.getD a.toNat default=M.reg b.C a from rfl,show b.C.Regs.getD (n%4).toNat default=M.reg b.C (n%4)from rfl,aC (z:=M.reg b.C a+M.reg b.C (n%4)) (by omega) (by omega),aC (z:=M.reg b.C a-M.reg b.C (n%4)) (by omega) (by omega),aC (z:=M.reg b.C a-M.reg b.C (n%4)+4096) (by omega) (by omega),iM (by omega),iM (by omega)];cases decide (op=2)<;>cases decide (op=15)<;>rfl
theorem kT(hb:KOk b)(a0:0<=a)(a1:a<=3)(w:Int):eC b a w=some (M.with_ b (M.go (M.put b.C a w))):=by unfold eC;rw[aEg (by have:=hb.regs;omega) a0 (hb.gA a0 a1).2];simp only[oB];rw[aHs hb];rfl
theorem bEb(hb:KOk b)(o0:0<=op)(o1:op<=15)(a0:0<=a)(a1:a<=3)(n0:0<=n)(hk:M.kern op=false)(h3:op≠3)(h4:op≠4):oG b ⟨op,a,n⟩=some (M.with_ b (M.plain b.C ⟨op,a,n⟩)):=by
 unfold oG;rcases aHn o0 o1 with e|e|e|e|e|e|e|e|e|e|e|e|e|e|e|e<;>subst e<;>first|(exact absurd hk (by decide))|(exact absurd rfl h3)|(exact absurd rfl h4)|simp only[Int.reduceEq,decide_true,decide_false,cTq,cFq,oB,JO.run,vO]
 {rw[aDg hb a0 a1 n0,oB,kT hb a0 a1];rfl};{rw[aDg hb a0 a1 n0,oB,kT hb a0 a1];rfl};{rw[aSn hb a0 a1 (.inl rfl)];rfl};{rw[aSn hb a0 a1 (.inr rfl)];rfl};{rw[aGb hb.pc.1 hb.pc.2];rfl};{rw[aDg hb a0 a1 n0,oB,kT hb a0 a1];rfl}
theorem aGd(hb:KOk b){i:DIns}(hi:M.insOk i=true)(h3:i.Op≠3)(h4:i.Op≠4):jD b i=some (M.did b i):=by unfold jD;rw[aGw hi,oB];unfold M.did;rw[dF h3,dF h4];obtain⟨op,a,n⟩:=i;simp only[M.insOk,bA,M.inR_iff]at hi;obtain⟨⟨⟨o0,o1⟩,a0,a1⟩,n0,n1⟩:=hi;(cases hk:M.kern op with|false=>simp only[bF,cTq];rw[bEb hb o0 o1 a0 a1 n0 hk h3 h4];rfl|true=>simp only[bT,cFq,cTq];(cases b.C.User with|true=>rfl|false=>simp only[cFq];rw[aUi hb o0 o1 a0 a1 n0 hk];rfl))
end
section
variable {b : DBare} {op a n : Int}
end
section
variable {h : DHost} {g : Int} {x : DGuest}
theorem xA(e:DExit):dV e=some (M.lacks e):=by unfold dV M.lacks;cases decide (e.Why=2)<;>rfl
theorem aKj(hs:SmallH h)(e:DExit):gU h g e=some (M.answered h g e):=by unfold gU M.answered;rw[aYg hs,aYw hs];cases decide (e.Why=2)<;>rfl
theorem aUs(hs:SmallH h)(l:Live h g x)(hk:M.lacks (M.guestExit h g)=true)(ha:(M.answered h g (M.guestExit h g)).2=true):∃y,SmallH (M.answered h g (M.guestExit h g)).1/\Live (M.answered h g (M.guestExit h g)).1 g y:=by rw[wF l]at hk ha ⊢;obtain⟨f,p0,p1,f0,f1,e,hok,_,_⟩:=aGh hs l hk ha;rw[e];exact⟨_,yW hs l f0 f1,aKs hs l p0 p1 f0 f1 hok⟩
def stI(h:DHost)(e:DExit)(k:Int):(List Int)×(List DGuest)×Int×Int×Int×Int×Int×Int:=(h.Words,h.Guests,e.Why,e.Page,e.What.Op,e.What.A,e.What.N,k)
theorem aDa:∀{n:Nat} {k:Int} {h:DHost} {x:DGuest},k+n=8->0<=k->SmallH h->Live h g x->iter (cD g) (stI h (M.guestExit h g) k)=some (.ret (match M.ready g n h with
 |some h'=> .go (h'.Words,h'.Guests)
 |none=> .out (⟨[],[]⟩,false)))
 |0,k,h,x,hk,k0,hs,l=>by rw[cH];have:cD g (stI h (M.guestExit h g) k)=some (.ret (.go (h.Words,h.Guests))):=(by unfold cD stI;simp only;rw[dF (by omega)];rfl);rw[this];rfl
 |n+1,k,h,x,hk,k0,hs,l=>by rw[cH];unfold M.ready;(cases hl:M.lacks (M.guestExit h g)with|false=>have:cD g (stI h (M.guestExit h g) k)=some (.ret (.go (h.Words,h.Guests))):=(by unfold cD stI;simp only;rw[dT (by omega),cTq];show Option.bind (dV (M.guestExit h g)) _=_;rw[xA,hl];rfl);rw[this];rfl|true=>rw[cTq];(cases ha:(M.answered h g (M.guestExit h g)).2 with|false=>have:cD g (stI h (M.guestExit h g) k)=some (.ret (.out (⟨[],[]⟩,false))):=(by unfold cD stI;simp only;rw[dT (by omega),cTq];show Option.bind (dV (M.guestExit h g)) _=_;rw[xA,hl,oB,cTq];show Option.bind (gU h g (M.guestExit h g)) _=_;rw[aKj hs,oB,ha];rfl);rw[this];rfl|true=>obtain⟨y,hs2,l2⟩:=aUs hs l hl ha;have:cD g (stI h (M.guestExit h g) k)=some (.next (stI (M.answered h g (M.guestExit h g)).1 (M.guestExit (M.answered h g (M.guestExit h g)).1 g) (k+1))):=(by unfold cD stI;simp only;rw[dT (by omega),cTq];show Option.bind (dV (M.guestExit h g)) _=_;rw[xA,hl,oB,cTq];show Option.bind (gU h g (M.guestExit h g)) _=_;rw[aKj hs,oB,ha,bT,cFq,aRg l2,<-wF l2,oB,aC (by omega) (by omega)]);rw[this,cTq];exact aDa (by omega) (by omega) hs2 l2))
theorem bDi(hs:SmallH h)(l:Live h g x):oQ h g=some (match M.ready g 8 h with
 |some h'=>(h',true)
 |none=>(⟨[],[]⟩,false)):=by
 unfold oQ;rw[aRg l,<-wF l,oB];have:=aDa (g:=g) (n:=8) (k:=0) (by omega) (by omega) hs l;unfold stI at this;rw[this];simp only[oB,LO.val];(cases M.ready g 8 h with|none=>rfl|some h'=>rfl)
theorem bHr(l:Live h g x)(hc:M.cnt x.Pages (M.vw h.Words x)=0)(hb:M.busy x.C=false):
 (M.wpc (M.vw h.Words x)=-1/\M.placeAt h.Words x x.C.Pc false=(-1,1))\/
 (M.wpc (M.vw h.Words x)≠-1/\(M.placeAt h.Words x x.C.Pc false).2=0/\0<=(M.placeAt h.Words x x.C.Pc false).1/\(M.placeAt h.Words x x.C.Pc false).1<160/\M.ins (h.Words.getD (M.placeAt h.Words x x.C.Pc false).1.toNat default)=M.inst (M.vw h.Words x)):=by
 have hbo:=lG l;rcases rX l (a:=x.C.Pc) (w:=false) hbo.pc.1 hbo.pc.2 (t:=M.wpc (M.vw h.Words x)) rfl with⟨ht,hp⟩|⟨t0,t1,hpg,hp⟩;{exact .inl ⟨ht,hp⟩}
 · have hrd:M.reads (M.vw h.Words x)=true:=by
    unfold M.reads;rw[show M.busy (M.vw h.Words x).C=false from hb,dF (by omega)];rfl
   have c1:=aHf (Nat.eq_zero_of_add_eq_zero_right hc);rw[hrd,Bool.true_and]at c1;unfold M.lackS at c1;rw[Bool.false_and,Bool.or_false,decide_eq_false_iff_not]at c1;have hr:=bU l (p:=(M.wpc (M.vw h.Words x)/8).toNat) (by omega);have hw:=aLo l t0 t1 c1;rw[dF c1,cFq,Bool.false_and,cFq]at hp;refine .inr ⟨by omega,by rw[hp],by rw[hp];simp only;omega,by rw[hp];simp only;omega,?_⟩;rw[hp];show M.ins (h.Words.getD ((x.Pages.getD (M.wpc (M.vw h.Words x)/8).toNat default).Frame*8+M.wpc (M.vw h.Words x)%8).toNat default)=_;rw[hw];rfl
theorem aTa(l:Live h g x)(hc:M.cnt x.Pages (M.vw h.Words x)=0)(hb:M.busy x.C=false)(hp0:M.wpc (M.vw h.Words x)≠-1)(ho:(M.inst (M.vw h.Words x)).Op=3\/(M.inst (M.vw h.Words x)).Op=4):
 (M.wad (M.vw h.Words x)=-1/\M.comes (M.vw h.Words x)=false/\M.placeAt h.Words x (M.adr (M.vw h.Words x)) (M.isSt (M.vw h.Words x))=(-1,1))\/
 (M.wad (M.vw h.Words x)≠-1/\M.comes (M.vw h.Words x)=true/\0<=M.wad (M.vw h.Words x)/\M.wad (M.vw h.Words x)<64/\(M.shadeAt h.Words x (M.adr (M.vw h.Words x))).Page=M.wad (M.vw h.Words x)/8/\
  M.placeAt h.Words x (M.adr (M.vw h.Words x)) (M.isSt (M.vw h.Words x))=((x.Pages.getD (M.wad (M.vw h.Words x)/8).toNat default).Frame*8+M.wad (M.vw h.Words x)%8,0)/\
  0<=(x.Pages.getD (M.wad (M.vw h.Words x)/8).toNat default).Frame/\(x.Pages.getD (M.wad (M.vw h.Words x)/8).toNat default).Frame<20/\
  h.Words.getD ((x.Pages.getD (M.wad (M.vw h.Words x)/8).toNat default).Frame*8+M.wad (M.vw h.Words x)%8).toNat default=(M.vw h.Words x).Mem.getD (M.wad (M.vw h.Words x)).toNat default):=by
 have hrd:M.reads (M.vw h.Words x)=true:=(by unfold M.reads;rw[show M.busy (M.vw h.Words x).C=false from hb,dF hp0];rfl);have eo:(decide ((M.inst (M.vw h.Words x)).Op=3)||M.isSt (M.vw h.Words x))=true:=(by unfold M.isSt;simpa using ho);have har:0<=M.adr (M.vw h.Words x)/\M.adr (M.vw h.Words x)<=63:=(by unfold M.adr;omega);have hco:M.comes (M.vw h.Words x)=!decide (M.wad (M.vw h.Words x)=-1):=(by unfold M.comes;rw[hrd,eo];rfl);rcases rX l (a:=M.adr (M.vw h.Words x)) (w:=M.isSt (M.vw h.Words x)) har.1 har.2 (t:=M.wad (M.vw h.Words x)) rfl with⟨ht,hp⟩|⟨t0,t1,hpg,hp⟩;{exact .inl ⟨ht,by rw[hco,dT ht];rfl,hp⟩};{have hcm:M.comes (M.vw h.Words x)=true:=(by rw[hco,dF (by omega)];rfl);have c2:=aHf (Nat.eq_zero_of_add_eq_zero_left hc);rw[hcm,Bool.true_and]at c2;unfold M.lackS at c2;rw[Bool.or_eq_false_iff,decide_eq_false_iff_not]at c2;have hr:=bU l (p:=(M.wad (M.vw h.Words x)/8).toNat) (by omega);rw[dF c2.1,cFq,c2.2,cFq]at hp;exact .inr ⟨by omega,hcm,t0,t1,hpg,hp,by omega,hr.2,aLo l t0 t1 c2.1⟩}
theorem aYy(l:Live h g x):M.withM h g x (M.vw h.Words x)=h:=by have:=l.ok.three;have:=l.lo;have:=l.hi;have e:h.Guests.set g.toNat x=h.Guests:=(by apply List.ext_getElem (by simp);intro i q1 q2;rw[List.getElem_set];split;{rename_i e;subst e;rw[<-l.at_,aW q2]};{rfl});show(⟨h.Words,h.Guests.set g.toNat x⟩:DHost)=h;rw[e]
theorem bDu{b:DBare}(hw:M.wrote (M.vw h.Words x)=false)(e1:b.C=(M.step (M.vw h.Words x)).C)(e2:b.In=(M.step (M.vw h.Words x)).In)(e3:b.Out=(M.step (M.vw h.Words x)).Out):M.withM h g x b=M.ran h g x:=by unfold M.ran;rw[hw,cFq,bFa e1 e2 e3]
theorem aFd(hs:SmallH h)(l:Live h g x){b:DBare}(hw:M.wrote (M.vw h.Words x)=false)(hm:b.Mem=[])(e1:b.C=(M.step (M.vw h.Words x)).C)(e2:b.In=(M.step (M.vw h.Words x)).In)(e3:b.Out=(M.step (M.vw h.Words x)).Out):bL h g b=some (M.ran h g x):=by rw[aCb hs l (((aEv (lG l)).k.to e1 e2 e3).small (by rw[hm];simp)),bDu hw e1 e2 e3]
theorem aAf{b:DBare}(h:M.comes b=false):M.wrote b=false:=by unfold M.wrote;rw[h];rfl
theorem aJi{b:DBare}(h:M.busy b.C=true):M.wrote b=false:=aAf (aKl b h).2
theorem aUr{b:DBare}(h:M.wpc b=-1):M.wrote b=false:=aAf (by unfold M.comes M.reads;rw[dT h];simp)
theorem aUv{b:DBare}(h3:(M.inst b).Op≠3)(h4:(M.inst b).Op≠4):M.wrote b=false:=aAf (by unfold M.comes M.isSt;rw[dF h3,dF h4];simp)
theorem bLt{b b':DBare}(h1:b'.C=b.C)(h2:b'.In=b.In)(h3:b'.Out=b.Out){i:DIns}(n3:i.Op≠3)(n4:i.Op≠4):(M.did b' i).C=(M.did b i).C/\(M.did b' i).In=(M.did b i).In/\(M.did b' i).Out=(M.did b i).Out/\(M.did b' i).Mem=b'.Mem:=by rw[aQz b i n3 n4,aQz b' i n3 n4,h1];(cases M.kern i.Op with|false=>exact⟨rfl,h2,h3,rfl⟩|true=>(cases b.C.User with|true=>exact⟨rfl,h2,h3,rfl⟩|false=>obtain⟨e1,e2,e3⟩:=bMb h1 h2 h3 i;exact⟨e1,e2,e3,aWg _ _⟩))
end
section
variable {h : DHost} {g : Int} {x : DGuest}
theorem aOm(c:DCore):jP c=some (M.trap (M.quiet c) c.Pc 4 0):=rfl
theorem aDr(b:DBare)(addr:Int):eS b addr=some (M.with_ b (M.trap b.C b.C.Pc 2 addr)):=rfl
def tkm(x:DGuest):DBare:=⟨M.tick x.C,[],x.In,x.Out⟩
theorem aJx(l:Live h g x):KOk (tkm x):=(lG l).tick.k.to rfl rfl rfl
theorem aUy(l:Live h g x)(hi:M.insOk (M.inst (M.vw h.Words x))=true):cC (tkm x).C (M.inst (M.vw h.Words x))=some (M.adr (M.vw h.Words x)):=by have hk:=aJx l;unfold M.adr;generalize M.inst (M.vw h.Words x)=i at hi;obtain⟨op,a,n⟩:=i;simp only[M.insOk,bA,M.inR_iff]at hi;rw[tP hk hi.2.1];show some (M.reg (M.tick x.C) (n%4)%64)=_;rw[aHc];rfl
theorem bCs{b:DBare}:0<=M.adr b/\M.adr b<=63:=by unfold M.adr;omega
theorem bEa(hs:SmallH h)(l:Live h g x)(hc:M.cnt x.Pages (M.vw h.Words x)=0)(hb:M.busy x.C=false)(hp:M.wpc (M.vw h.Words x)≠-1)(ho:(M.inst (M.vw h.Words x)).Op=3)(hst:M.step (M.vw h.Words x)=M.mdo (M.with_ (M.vw h.Words x) (M.tick x.C)) (M.inst (M.vw h.Words x))):
 oM h g (tkm x) (M.inst (M.vw h.Words x))=some (M.ran h g x):=by
 have hlw:=l.ok.len;have hi:=aMq (lG l);have ar:=bCs (b:=M.vw h.Words x);have hs4:M.isSt (M.vw h.Words x)=false:=(by unfold M.isSt;rw[ho];rfl);have hwr:M.wrote (M.vw h.Words x)=false:=(by unfold M.wrote;rw[hs4,Bool.and_false]);have me:=aSs (M.vw h.Words x) (.inl ho);rw[show(M.vw h.Words x).C=x.C from rfl]at me;rw[me,hs4,cFq]at hst;unfold oM;rw[aUy l hi,oB,pP l ar.1 ar.2,oB];rcases aTa l hc hb hp (.inl ho)with⟨hw,_,hpl⟩|⟨hw,_,t0,t1,_,hpl,f0,f1,hword⟩;{rw[hs4]at hpl;rw[dT hw,cTq]at hst;rw[hpl];simp only[Int.reduceEq,decide_false,bF,cTq];rw[aDr,oB,aFd hs l hwr rfl (by rw[hst];show M.trap (M.tick x.C) (M.tick x.C).Pc 2 _=M.trap (M.tick x.C) x.C.Pc 2 _;rw[tC]) (by rw[hst];rfl) (by rw[hst];rfl)];rfl};{rw[hs4]at hpl;rw[dF hw,cFq]at hst;rw[hpl];simp only[decide_true,bT,cFq];have hia:=hi;simp only[M.insOk,bA,M.inR_iff]at hia;rw[aB ⟨by omega,by omega⟩,kT (aJx l) hia.1.2.1 hia.1.2.2,oB,hword,aFd hs l hwr rfl (by rw[hst];rfl) (by rw[hst];rfl) (by rw[hst];rfl)];rfl}
theorem aYc(hs:SmallH h)(l:Live h g x)(hc:M.cnt x.Pages (M.vw h.Words x)=0)(hb:M.busy x.C=false)(hp:M.wpc (M.vw h.Words x)≠-1)(ho:(M.inst (M.vw h.Words x)).Op=4)(hst:M.step (M.vw h.Words x)=M.mdo (M.with_ (M.vw h.Words x) (M.tick x.C)) (M.inst (M.vw h.Words x))):
 mU h g (tkm x) (M.inst (M.vw h.Words x))=some (M.ran h g x):=by
 have hlw:=l.ok.len;have h3:=l.ok.three;have g0:=l.lo;have g1:=l.hi;have hpl8:=l.pages;have hi:=aMq (lG l);have ar:=bCs (b:=M.vw h.Words x);have hs4:M.isSt (M.vw h.Words x)=true:=(by unfold M.isSt;rw[ho];rfl);have me:=aSs (M.vw h.Words x) (.inr ho);rw[show(M.vw h.Words x).C=x.C from rfl]at me;rw[me,hs4,cTq]at hst;have hk:=aJx l;unfold mU;rw[aUy l hi,oB,pP l ar.1 ar.2,oB];rcases aTa l hc hb hp (.inr ho)with⟨hw,hcm,hpl⟩|⟨hw,hcm,t0,t1,hpg,hpl,f0,f1,hword⟩;{have hwr:=aAf hcm;rw[hs4]at hpl;rw[dT hw,cTq]at hst;rw[hpl];simp only[Int.reduceEq,decide_false,bF,cTq];rw[aDr,oB,aFd hs l hwr rfl (by rw[hst];show M.trap (M.tick x.C) (M.tick x.C).Pc 2 _=M.trap (M.tick x.C) x.C.Pc 2 _;rw[tC]) (by rw[hst];rfl) (by rw[hst];rfl)];rfl};{have hwr:M.wrote (M.vw h.Words x)=true:=(by unfold M.wrote;rw[hcm,hs4];rfl);rw[hs4]at hpl;rw[dF hw,cFq]at hst;rw[hpl];simp only[decide_true,bT,cFq];have hia:=hi;simp only[M.insOk,bA,M.inR_iff]at hia;have hgo:KOk (M.with_ (tkm x) (M.go (tkm x).C)):=(aEv (lG l)).k.to (by rw[hst];rfl) (by rw[hst];rfl) (by rw[hst];rfl);rw[aBk hk.pc.1 hk.pc.2,oB,aCb hs l (hgo.small (by simp[M.with_,tkm])),oB,aB (hk.gA hia.1.2.1 hia.1.2.2)];have gat:(M.withM h g x (M.with_ (tkm x) (M.go (tkm x).C))).Guests.getD g.toNat default=⟨x.Live,M.go (M.tick x.C),x.Pages,x.In,x.Out⟩:=(by have:=qH l (y:=⟨x.Live,M.go (M.tick x.C),x.Pages,x.In,x.Out⟩) (k:=g.toNat) (by omega);rw[if_pos (by omega)]at this;exact this);simp only[gat];rw[aB ⟨by omega,by show _<((h.Words.length:Nat):Int);omega⟩,aB ⟨g0,by show _<(((h.Guests.set _ _).length:Nat):Int);rw[lS];omega⟩,xT l ar.1 ar.2,oB,hpg,aB ⟨by omega,by omega⟩];unfold M.ran;rw[hwr,cTq,hst];show some (⟨h.Words.set _ (M.reg (M.tick x.C) (M.inst (M.vw h.Words x)).A),(h.Guests.set g.toNat _).set g.toNat ⟨x.Live,M.go (M.tick x.C),x.Pages.set (M.wad (M.vw h.Words x)/8).toNat (M.dirty x (M.wad (M.vw h.Words x)/8).toNat),x.In,x.Out⟩⟩:DHost)=_;rw[List.set_set,aHc];rfl}
theorem bOo(hs:SmallH h)(l:Live h g x)(hc:M.cnt x.Pages (M.vw h.Words x)=0):vX h g=some (M.ran h g x):=by have hlw:=l.ok.len;have hb:=lG l;have he:=aVy (M.vw h.Words x);have hq:(M.vw h.Words x).C=x.C:=rfl;rw[hq]at he;unfold vX;rw[aUo l,oB];show cond x.C.Stopped _ (Option.bind (fG x.C) _)=_;(cases hst:x.C.Stopped with|true=>rw[hst,cTq]at he;rw[cTq,hG hs l.ok];show some h=_;rw[<-bDu (b:=M.vw h.Words x) (aJi (by show M.busy x.C=true;unfold M.busy;rw[hst];rfl)) (by rw[he]) (by rw[he]) (by rw[he]),aYy l]|false=>rw[hst,cFq]at he;rw[cFq,aHu (c:=x.C) hb.timer.1 hb.timer.2,oB,sC,oB];(cases hti:(M.tick x.C).Waits&&(M.tick x.C).On with|true=>rw[hti,cTq]at he;rw[cTq,aOm,oB];rw[aFd hs l (aJi (by show M.busy x.C=true;unfold M.busy;rw[hti,Bool.or_true])) rfl (by rw[he];show M.trap _ (M.tick x.C).Pc 4 0=_;rw[tC];rfl) (by rw[he];rfl) (by rw[he];rfl)];rfl|false=>have hbz:M.busy x.C=false:=(by unfold M.busy;rw[hst,hti];rfl);rw[hti,cFq]at he;have hgw:cU h g (M.tick x.C).Pc false=some (M.placeAt h.Words x x.C.Pc false):=(by rw[tC];exact pP l hb.pc.1 hb.pc.2);rw[cFq,hgw,oB];rcases bHr l hc hbz with⟨hw,hp⟩|⟨hw,hp2,hp0,hp1,hins⟩;{rw[dT hw,cTq]at he;rw[hp];simp only[Int.reduceEq,decide_false,bF,cTq];rw[aDr,oB,aFd hs l (aUr hw) rfl (by rw[he];show M.trap (M.tick x.C) (M.tick x.C).Pc 2 (M.tick x.C).Pc=M.trap (M.tick x.C) x.C.Pc 2 x.C.Pc;rw[tC]) (by rw[he];rfl) (by rw[he];rfl)];rfl};{rw[dF hw,cFq]at he;have hwd:=iK l.ok.words (i:=(M.placeAt h.Words x x.C.Pc false).1.toNat) (by omega);rw[dT hp2,bT,cFq,aB ⟨hp0,by omega⟩,aDp hwd.1 hwd.2,oB,hins];show Option.bind (lP h g (tkm x) (M.inst (M.vw h.Words x))) _=_;have key:lP h g (tkm x) (M.inst (M.vw h.Words x))=some (M.ran h g x):=(by unfold lP;by_cases h3:(M.inst (M.vw h.Words x)).Op=3;{rw[aQe _ _ (.inl h3)]at he;rw[dT h3,cTq,bEa hs l hc hbz hw h3 he];rfl};{by_cases h4:(M.inst (M.vw h.Words x)).Op=4;{rw[aQe _ _ (.inr h4)]at he;rw[dF h3,dT h4,cFq,cTq,aYc hs l hc hbz hw h4 he];rfl};{obtain⟨e1,e2,e3,e4⟩:=bLt (b:=M.with_ (M.vw h.Words x) (M.tick x.C)) (b':=tkm x) rfl rfl rfl h3 h4;rw[dF h3,dF h4,cFq,cFq,aGd (aJx l) (aMq hb) h3 h4,oB,aFd hs l (aUv h3 h4) e4 (by rw[he];exact e1) (by rw[he];exact e2) (by rw[he];exact e3)];rfl}});rw[key];rfl}))
end
theorem aYh{h:DHost}{g:Int}(hs:SmallH h):mS h g=some (M.hostStep h g):=by unfold mS M.hostStep;rw[rS hs,oB];(cases ht:M.there h g with|false=>rfl|true=>have l:=dC hs ht;rw[bT,cFq,cTq,bDi hs l,oB];rcases aIq (n:=8) hs l (by have:=aWe (ps:=(h.Guests.getD g.toNat default).Pages) (b:=M.vw h.Words (h.Guests.getD g.toNat default));omega)with hr|⟨h',x',hr,r⟩;{rw[hr];simp only[bF,cTq];rw[hG hs l.ok];rfl};{rw[hr];simp only[bT,cFq];rw[bOo r.small r.live r.none,r.live.at_];rfl})
section
variable {h : DHost} {g : Int} {x : DGuest}
end
theorem zQ{h:DHost}{g:Int}(hs:SmallH h):
 (M.there h g=false/\M.hostStep h g=(M.zeroH,false))\/(∃x,Live h g x/\M.hostStep h g=(h,false))\/
 (∃x h' x' y,Live h g x/\Rdy h g x h' x'/\Ran h' g x' y/\M.hostStep h g=(M.ran h' g x',true)):=by
 unfold M.hostStep;(cases ht:M.there h g with|false=>exact .inl ⟨rfl,rfl⟩|true=>have l:=dC hs ht;rw[cTq];rcases aIq (n:=8) hs l (by have:=aWe (ps:=(h.Guests.getD g.toNat default).Pages) (b:=M.vw h.Words (h.Guests.getD g.toNat default));omega)with hr|⟨h',x',hr,r⟩;{rw[hr];exact .inr (.inl ⟨_,l,rfl⟩)};{rw[hr];obtain⟨y,hy⟩:=bNb r.small r.live r.none;refine .inr (.inr ⟨_,h',x',y,l,r,hy,?_⟩);simp only[r.live.at_]})
theorem aLr{h:DHost}{g:Int}(hs:SmallH h):SmallH (M.hostStep h g).1:=by rcases zQ (g:=g) hs with⟨_,e⟩|⟨x,l,e⟩|⟨x,h',x',y,l,r,hy,e⟩<;>rw[e];{exact aBw};{exact hs};{exact hy.small}
namespace M
noncomputable def turn (s:DHost×Int)(g:Int):DHost×Int:=bif (hostStep s.1 g).2 then((hostStep s.1 g).1,s.2+1)else s
noncomputable def turns (h:DHost)(ts:List Int):DHost×Int:=ts.foldl turn (h,0)
noncomputable def hostRun (h:DHost)(ts:List Int):DHost×Int:=bif hostOk h then(bif decide (200<ts.length)then(zeroH,0)else turns h ts)else(zeroH,0)
end M
theorem aYv{s:DHost×Int}{g:Int}(hs:SmallH s.1):SmallH (M.turn s g).1:=by unfold M.turn;cases(M.hostStep s.1 g).2;{exact hs};{exact aLr hs}
theorem bFu{s:DHost×Int}{g:Int}:(M.turn s g).2=s.2\/(M.turn s g).2=s.2+1:=by unfold M.turn;cases(M.hostStep s.1 g).2;{exact .inl rfl};{exact .inr rfl}
theorem aVu{h:DHost}{ts:List Int}(hs:SmallH h)(hl:ts.length<=200):iter (hO ts) (h.Words,h.Guests,(0:Int),(0:Int))=some (.ret (.go ((M.turns h ts).1.Words,(M.turns h ts).1.Guests,(M.turns h ts).2)))/\SmallH (M.turns h ts).1:=by
 have key:=nA (xs:=ts) (step:=hO ts) (λ(s:DHost×Int) i=>(s.1.Words,s.1.Guests,s.2,i)) M.turn (λs=> .go (s.1.Words,s.1.Guests,s.2)) (λi s=>SmallH s.1/\0<=s.2/\s.2<=i) (λi x s h1 h2 h3 ⟨i1,i2,i3⟩=>by
  have hn:=bFu (s:=s) (g:=x);refine⟨?_,aYv i1,by omega,by omega⟩;simp only[hO,dT h1,cTq];rw[aB ⟨by omega,h1⟩,iT,h3,aYh (h:=⟨s.1.Words,s.1.Guests⟩) i1,oB];unfold M.turn;cases hb:(M.hostStep s.1 x).2 with
  |false=>simp only[hb,cFq,oB,JO.run,oW];rw[aC (by omega) (by omega)]
  |true=>simp only[hb,cTq,oB,JO.run,oW];rw[aC (by omega) (by omega),aC (by omega) (by omega)]) (λs _=>by
  simp only[hO];rw[dF (by omega),cFq]) (h,0) ⟨hs,Int.le_refl 0,Int.le_refl 0⟩
 exact⟨key.1,key.2.1⟩
theorem bEq{h:DHost}{ts:List Int}(hs:SmallH h):oO h ts=some (M.hostRun h ts):=by unfold oO M.hostRun;rw[aPo hs,oB];(cases ho:M.hostOk h with|false=>rfl|true=>rw[bT,cFq,cTq];by_cases hl:200<ts.length;{rw[dT (by omega),dT hl];rfl};{rw[dF (by omega),dF hl,cFq,cFq,hG hs (fF.1 ho),oB,(aVu hs (by omega)).1];rfl})
theorem aOn{h:DHost}{ts:List Int}(hs:SmallH h):SmallH (M.hostRun h ts).1:=by unfold M.hostRun;(cases M.hostOk h with|false=>exact aBw|true=>rw[cTq];by_cases hl:200<ts.length;{rw[dT hl];exact aBw};{rw[dF hl,cFq];exact(aVu hs (by omega)).2})
namespace M
def turnsOf(xs:List Int)(g:Int):Nat:=xs.countP λx=>decide (x=g)
end M
theorem vU{xs:List Int}{g:Int}:M.turnsOf xs g<=xs.length:=List.countP_le_length
theorem aUh{xs ys:List Int}{g:Int}:M.turnsOf (xs++ys) g=M.turnsOf xs g+M.turnsOf ys g:=List.countP_append
theorem aRz{xs:List Int}{g:Int}{i:Nat}(hi:i<xs.length):M.turnsOf (xs.take (i+1)) g=M.turnsOf (xs.take i) g+(bif decide (xs.getD i default=g)then 1 else 0):=by have e:xs.take (i+1)=xs.take i++[xs.getD i default]:=(by rw[List.take_add_one,aW hi,List.getElem?_eq_getElem hi];rfl);rw[e,aUh];congr 1
theorem aOf{xs:List Int}{g:Int}(h:xs.length<=1048576):iQ xs g=some (M.turnsOf xs g:Int):=by
 have key:=gE (n:=xs.length) (step:=hT xs g) (λi=>((M.turnsOf (xs.take i) g:Int),(i:Int))) (λ_=>true) (.go (M.turnsOf xs g:Int)) (.go 0) (λi hi _=>by
  have hl:=vU (xs:=xs.take i) (g:=g);have h1:(i:Int)<(xs.length:Int):=(by omega);rw[List.length_take]at hl;simp only[hT,dT h1,cTq];rw[aB ⟨by omega,h1⟩,iT,aRz hi,Int.natCast_add,aC (by omega) (by omega)];cases hb:decide (xs.getD i default=g)with
  |false=>simp only[cFq,oB,JO.run,pM];rw[aC (by omega) (by omega)];simp
  |true=>simp only[cTq,oB,JO.run,pM];rw[aC (by omega) (by omega)];rfl) (λ_=>by
  simp only[hT];rw[dF (by omega),cFq,List.take_length])
 have e:(List.range xs.length).all (λ_=>true)=true:=(by simp);rw[e]at key;unfold iQ;show Option.bind (Option.bind (iter (hT xs g) ((M.turnsOf (xs.take 0) g:Int),0)) LO.val) _=_;rw[show(0:Int)=((0:Nat):Int)from rfl,key];rfl
section
variable {b : DBare} {op a n : Int}
theorem bGf(hb:BOk b)(a0:0<=a)(a1:a<=3)(n0:0<=n):pQ b ⟨3,a,n⟩=some (M.mdo b ⟨3,a,n⟩):=by unfold pQ M.mdo;have hl:=hb.len;rw[tP hb.k n0];simp only[oB,aTt (mem:=b.Mem) (by omega)];simp only[decide_true,Int.reduceEq,decide_false];by_cases h:M.walk b.Mem b.C.Root (M.reg b.C (n%4)%64) b.C.User false=-1;{rw[dT h];rfl};{have hw:=qY _ _ _ _ _ h;rw[dF h];simp only[cFq,cTq];rw[aB ⟨hw.1,by omega⟩,kT hb.k a0 a1];rfl}
theorem bGt(hb:BOk b)(a0:0<=a)(a1:a<=3)(n0:0<=n):pT b ⟨4,a,n⟩=some (M.mdo b ⟨4,a,n⟩):=by unfold pT M.mdo;have hl:=hb.len;rw[tP hb.k n0];simp only[oB,aTt (mem:=b.Mem) (by omega)];simp only[decide_true,Int.reduceEq,decide_false];by_cases h:M.walk b.Mem b.C.Root (M.reg b.C (n%4)%64) b.C.User true=-1;{rw[dT h];rfl};{have hw:=qY _ _ _ _ _ h;rw[dF h];simp only[cFq];rw[aB (hb.k.gA a0 a1),aEg (by omega) hw.1 (by omega)];simp only[oB];rw[bQg hb.k];rfl}
theorem bPd(hb:BOk b){i:DIns}(hi:M.insOk i=true):sN b i=some (M.did b i):=by unfold sN;have hi2:=hi;obtain⟨op,a,n⟩:=i;simp only[M.insOk,bA,M.inR_iff]at hi2;obtain⟨⟨⟨o0,o1⟩,a0,a1⟩,n0,n1⟩:=hi2;by_cases h3:op=3;{subst h3;rw[bGf hb a0 a1 n0];rfl};{by_cases h4:op=4;{subst h4;rw[bGt hb a0 a1 n0];rfl};{simp only[dF h3,dF h4,cFq,oB,JO.run];rw[aGd hb.k hi h3 h4];rfl}}
theorem bCw(hb:BOk b):kU b=some (M.step b):=by have hl:=hb.len;have ht:=hb.tick;unfold kU M.step;(cases hs:b.C.Stopped with|true=>rfl|false=>simp only[cFq,aHu hb.timer.1 hb.timer.2,oB,sC];(cases(M.tick b.C).Waits&&(M.tick b.C).On with|true=>rfl|false=>simp only[cFq];rw[aTt (by omega),oB];by_cases h:M.walk b.Mem (M.tick b.C).Root (M.tick b.C).Pc (M.tick b.C).User false=-1;{rw[dT h];rfl};{have hw:=qY _ _ _ _ _ h;have hm:=tD hb hw.1 hw.2;rw[dF h,cFq,cFq,aB ⟨hw.1,by omega⟩,aDp hm.1 hm.2,oB];show Option.bind (sN (M.with_ b (M.tick b.C)) _) _=_;rw[bPd ht (aCl hm.1 hm.2)];rfl}))
theorem aQg{b:DBare}(h:SmallB b):cL b=some b:=by unfold cL;rw[dY h.c.regs,dY h.mem,dY h.i,dY h.o];rfl
end
section
variable {b : DBare} {op a n : Int}
end
namespace M
def steps:Nat->DBare->DBare
 |0,b=>b
 |n+1,b=>step (steps n b)
def bareRun(b:DBare)(n:Int):DBare:=bif bareOk b&&inR 0 300 n then steps n.toNat b else zero
end M
theorem aBe{b:DBare}(hb:BOk b):∀n,BOk (M.steps n b)
 |0=>hb
 |n+1=>aEv (aBe hb n)
abbrev RSx:=(List Int)×Int×Int×Int×Int×Bool×Int×Int×Int×Bool×Bool×Bool×Bool×(List Int)×(List Int)×(List Int)
abbrev RSt:=(List Int)×Int×Int×Int×Int×Bool×Int×Int×Int×Bool×Bool×Bool×Bool×(List Int)×(List Int)×(List Int)×Int
def aJv(s:RSt):DBare:=⟨⟨s.1,s.2.1,s.2.2.1,s.2.2.2.1,s.2.2.2.2.1,s.2.2.2.2.2.1,s.2.2.2.2.2.2.1,s.2.2.2.2.2.2.2.1,s.2.2.2.2.2.2.2.2.1,s.2.2.2.2.2.2.2.2.2.1,s.2.2.2.2.2.2.2.2.2.2.1,s.2.2.2.2.2.2.2.2.2.2.2.1,s.2.2.2.2.2.2.2.2.2.2.2.2.1⟩,s.2.2.2.2.2.2.2.2.2.2.2.2.2.1,s.2.2.2.2.2.2.2.2.2.2.2.2.2.2.1,s.2.2.2.2.2.2.2.2.2.2.2.2.2.2.2.1⟩
def jS(s:RSt):Int:=s.2.2.2.2.2.2.2.2.2.2.2.2.2.2.2.2
def aLp(s:RSx):DBare:=⟨⟨s.1,s.2.1,s.2.2.1,s.2.2.2.1,s.2.2.2.2.1,s.2.2.2.2.2.1,s.2.2.2.2.2.2.1,s.2.2.2.2.2.2.2.1,s.2.2.2.2.2.2.2.2.1,s.2.2.2.2.2.2.2.2.2.1,s.2.2.2.2.2.2.2.2.2.2.1,s.2.2.2.2.2.2.2.2.2.2.2.1,s.2.2.2.2.2.2.2.2.2.2.2.2.1⟩,s.2.2.2.2.2.2.2.2.2.2.2.2.2.1,s.2.2.2.2.2.2.2.2.2.2.2.2.2.2.1,s.2.2.2.2.2.2.2.2.2.2.2.2.2.2.2⟩
def aPv(b:DBare)(k:Int):RSt:=(b.C.Regs,b.C.Pc,b.C.Root,b.C.Vector,b.C.Saved,b.C.SavedUser,b.C.Cause,b.C.Bad,b.C.Timer,b.C.Waits,b.C.User,b.C.On,b.C.Stopped,b.Mem,b.In,b.Out,k)
def bNj(b:DBare):RSx:=(b.C.Regs,b.C.Pc,b.C.Root,b.C.Vector,b.C.Saved,b.C.SavedUser,b.C.Cause,b.C.Bad,b.C.Timer,b.C.Waits,b.C.User,b.C.On,b.C.Stopped,b.Mem,b.In,b.Out)
section
variable {b : DBare} {n : Int}
theorem bFp (hb:BOk b) (h1:n<=300) {step:RSt->Option (LO RSt (JO RSx DBare))} {f:DBare->Option DBare} (hf:∀b,BOk b->f b=some (M.step b))
 (e:∀s,step s=cond (decide (jS s<n)) (Option.bind (f (aJv s)) λv=>some (.next (aPv v (w64 (jS s+1))))) (some (.ret (.go (bNj (aJv s)))))) (h0:0<=n):
 Ex (Option.bind (iter step (aPv b 0)) LO.val) (λj=>∃t,j= .go t/\aLp t=M.steps n.toNat b):=by
 refine Ex.loopv (λs=>0<=jS s/\jS s<=n/\aJv s=M.steps (jS s).toNat b) (λs=>n.toNat-(jS s).toNat) (λt=>aLp t=M.steps n.toNat b) ⟨Int.le_refl _,h0,rfl⟩ ?_
 rintro s ⟨k0,k1,k2⟩
 rw[e];refine Ex.cond (λhk=>?_) λhk=>?_;{have hk:jS s<n:=of_decide_eq_true hk;rw[k2,hf _ (aBe hb _),oB,aC (by omega) (by omega)];refine Ex.ret (.inl ⟨_,rfl,⟨?_,?_,?_⟩,?_⟩);{show 0<=jS s+1;omega};{show jS s+1<=n;omega};{show M.step (M.steps (jS s).toNat b)=M.steps (jS s+1).toNat b;rw[show(jS s+1).toNat=(jS s).toNat+1 by omega];rfl};{show n.toNat-(jS s+1).toNat<n.toNat-(jS s).toNat;omega}};{have hk:¬jS s<n:=of_decide_eq_false hk;refine Ex.ret (.inr ⟨_,rfl,?_⟩);show aJv s=_;rw[k2,show jS s=n by omega]}
theorem bEg(h:SmallB b):oT b n=some (M.bareRun b n):=by unfold oT M.bareRun;rw[bFb h,oB];(cases hok:M.bareOk b with|false=>rfl|true=>have hb:=aFp.1 hok;simp only[bT,cFq,Bool.true_and,M.inR];by_cases h0:n<0;{rw[dT h0,dF (show¬0<=n by omega)];rfl};{rw[dF h0,dT (show 0<=n by omega)];by_cases h1:300<n;{rw[dT h1,dF (show¬n<=300 by omega)];rfl};{rw[dF h1,dT (show n<=300 by omega)];obtain⟨_,g1,t,rfl,g2⟩:=bFp (step:=vN n) hb (by omega) (f:=kU) (λb hb=>bCw hb) (λs=>rfl) (by omega);simp only[cFq,Bool.and_self,cTq];rw[show(b.C.Regs,b.C.Pc,b.C.Root,b.C.Vector,b.C.Saved,b.C.SavedUser,b.C.Cause,b.C.Bad,b.C.Timer,b.C.Waits,b.C.User,b.C.On,b.C.Stopped,b.Mem,b.In,b.Out,(0:Int))=aPv b 0 from rfl,g1,oB];show Option.bind (cL (aLp t)) (λv=>some v)=_;rw[g2,aQg (aBe hb _).small];rfl}})
end
structure AlongT (h : DHost) (s : DHost × Int) (c : Nat → Nat) : Prop where
 ok:M.hostOk s.1=true
 small:SmallH s.1
 views:∀k:Nat,k<3->M.there h (k:Int)=true->M.hostView s.1 (k:Int)=(M.steps (c k) (M.hostView h (k:Int)).1,true)
 gone:∀k:Nat,k<3->M.there h (k:Int)=false->M.hostView s.1 (k:Int)=M.hostView h (k:Int)/\c k=0
 num:s.2=((c 0+c 1+c 2:Nat):Int)
theorem wG{h:DHost}{g:Int}:(M.hostView h g).2=M.there h g:=by unfold M.hostView;cases M.there h g<;>rfl
theorem aZc{h:DHost}{s:DHost×Int}{c:Nat->Nat}(a:AlongT h s c)(g:Int):∃c',AlongT h (M.turn s g) c'/\∀k:Nat,k<3->c' k<=c k+(if g=(k:Int)then 1 else 0):=by
 have same:(M.hostStep s.1 g).2=false->∃c',AlongT h (M.turn s g) c'/\∀k:Nat,k<3->c' k<=c k+(if g=(k:Int)then 1 else 0):=λe=>by refine⟨c,?_,λk _=>Nat.le_add_right _ _⟩;unfold M.turn;rw[e];exact a
 rcases zQ (g:=g) a.small with⟨_,e⟩|⟨x,l,e⟩|⟨x,h',x',y,l,r,hy,e⟩;{exact same (by rw[e])};{exact same (by rw[e])}
 · have g0:=l.lo;have g1:=l.hi
   have et:M.turn s g=(M.ran h' g x',s.2+1):=(by unfold M.turn;rw[e];rfl);have tg:M.there s.1 g=true:=aAo l;have hg:((g.toNat:Nat):Int)=g:=(by omega);have th:M.there h g=true:=(by(cases hh:M.there h g with|true=>rfl|false=>have:=(a.gone g.toNat (by omega) (by rw[hg];exact hh)).1;rw[hg]at this;have e2:=wG (h:=s.1) (g:=g);rw[this,wG,hh,tg]at e2;cases e2));refine⟨λk=>c k+(if g=(k:Int)then 1 else 0),?_,λk _=>Nat.le_refl _⟩;rw[et];have ot:∀k:Nat,k<3->(k:Int)≠g->M.hostView (M.ran h' g x') (k:Int)=M.hostView s.1 (k:Int):=λk hk hn=>(hy.others k hk hn).trans (r.views k hk);refine⟨fF.2 hy.ok,hy.small,λk hk ht=>?_,λk hk ht=>?_,?_⟩;{by_cases q:g=(k:Int);{subst q;rw[if_pos rfl];have hv:=a.views k hk ht;rw[xV l]at hv;have hv1:M.vw s.1.Words x=M.steps (c k) (M.hostView h (k:Int)).1:=congrArg Prod.fst hv;show M.hostView (M.ran h' (k:Int) x') (k:Int)=_;rw[hy.view,r.same,hv1];rfl};{rw[if_neg q];exact(ot k hk (λe=>q e.symm)).trans (a.views k hk ht)}}
   · have q:g≠(k:Int):=λq=>by subst q;rw[th]at ht;cases ht
     rw[if_neg q];obtain⟨b1,b2⟩:=a.gone k hk ht;exact⟨(ot k hk (λe=>q e.symm)).trans b1,by omega⟩
   {have hn:=a.num;show s.2+1=_;rw[hn];have h3:g=0\/g=1\/g=2:=(by omega);rcases h3 with rfl|rfl|rfl<;>simp<;>omega}
theorem aGj{h:DHost}:∀(ts:List Int) {s:DHost×Int} {c:Nat->Nat},AlongT h s c->∃c',AlongT h (ts.foldl M.turn s) c'/\∀k:Nat,k<3->c' k<=c k+M.turnsOf ts (k:Int)
 |[],s,c,a=>⟨c,a,λk _=>Nat.le_add_right _ _⟩
 |g::ts,s,c,a=>by obtain⟨c1,a1,b1⟩:=aZc a g;obtain⟨c2,a2,b2⟩:=aGj ts a1;refine⟨c2,a2,λk hk=>?_⟩;have e:M.turnsOf (g::ts) (k:Int)=M.turnsOf ts (k:Int)+(if g=(k:Int)then 1 else 0):=(by unfold M.turnsOf;simp only[List.countP_cons,decide_eq_true_eq]);have:=b1 k hk;have:=b2 k hk;omega
theorem aOp{b:DBare}(hb:BOk b){n:Nat}(hn:n<=300):M.bareRun b (n:Int)=M.steps n b:=by unfold M.bareRun;rw[aFp.2 hb,M.inR_iff.2 ⟨by omega,by omega⟩,iT];rfl
namespace M
def lv(h:DHost)(ts:List Int)(k:Nat):Nat:=bif (h.Guests.getD k default).Live then turnsOf ts (k:Int)else 0
def sumLv(h:DHost)(ts:List Int):Nat->Nat
 |0=>0
 |n+1=>sumLv h ts n+lv h ts n
end M
theorem aGq{h:DHost}(hk:M.hostOk h=true){k:Nat}(h3:k<3):M.there h (k:Int)=(h.Guests.getD k default).Live:=by
 (cases e:(h.Guests.getD k default).Live with|true=>exact nQ.2 ⟨fF.1 hk,by omega,by omega,by rw[iT];exact e⟩|false=>(cases t:M.there h (k:Int)with|false=>rfl|true=>have:=(nQ.1 t).2.2.2;rw[iT,e]at this;cases this))
theorem bOt{h:DHost}{ts:List Int}{k:Nat}:M.lv h ts k<=ts.length:=by unfold M.lv;cases(h.Guests.getD k default).Live;{exact Nat.zero_le _};{exact vU}
theorem aIh{h:DHost}{ts:List Int}:∀n,M.sumLv h ts n<=n*ts.length
 |0=>by simp[M.sumLv]
 |n+1=>by have:=aIh (h:=h) (ts:=ts) n;have:=bOt (h:=h) (ts:=ts) (k:=n);rw[Nat.succ_mul];show M.sumLv h ts n+M.lv h ts n<=_;omega
structure Runs (h : DHost) (ts : List Int) (c : Nat → Nat) : Prop where
 ok:M.hostOk (M.hostRun h ts).1=true
 num:(M.hostRun h ts).2=((c 0+c 1+c 2:Nat):Int)
 most:∀k:Nat,k<3->c k<=M.lv h ts k
 views:∀k:Nat,k<3->M.there h (k:Int)=true->M.hostView (M.hostRun h ts).1 (k:Int)=(M.steps (c k) (M.hostView h (k:Int)).1,true)
 gone:∀k:Nat,k<3->M.there h (k:Int)=false->M.hostView (M.hostRun h ts).1 (k:Int)=M.hostView h (k:Int)
theorem bFo{h:DHost}{ts:List Int}(hs:SmallH h)(hk:M.hostOk h=true)(hl:ts.length<=200):∃c,Runs h ts c:=by have e:M.hostRun h ts=ts.foldl M.turn (h,0):=(by unfold M.hostRun;rw[hk,cTq,dF (by omega)];rfl);have a0:AlongT h (h,0) (λ_=>0):=⟨hk,hs,λk _ ht=>by have:=wG (h:=h) (g:=(k:Int));rw[ht]at this;exact Prod.ext rfl this,λk _ _=>⟨rfl,rfl⟩,rfl⟩;obtain⟨c,a,b⟩:=aGj ts a0;rw[<-e]at a;refine⟨c,a.ok,a.num,λk h3=>?_,a.views,λk h3 ht=>(a.gone k h3 ht).1⟩;unfold M.lv;rw[<-aGq hk h3];(cases t:M.there h (k:Int)with|false=>rw[(a.gone k h3 t).2];exact Nat.zero_le _|true=>rw[cTq];have:=b k h3;omega)
theorem bHk{h:DHost}{ts:List Int}{c:Nat->Nat}(r:Runs h ts c)(he:((M.sumLv h ts 3:Nat):Int)<=(M.hostRun h ts).2){k:Nat}(hk:k<3):c k=M.lv h ts k:=by have h0:=r.most 0 (by omega);have h1:=r.most 1 (by omega);have h2:=r.most 2 (by omega);have hn:=r.num;have e:M.sumLv h ts 3=0+M.lv h ts 0+M.lv h ts 1+M.lv h ts 2:=rfl;have h3:k=0\/k=1\/k=2:=(by omega);rcases h3 with rfl|rfl|rfl<;>omega
theorem bGb{h:DHost}{ts:List Int}(hk:HOk h)(hl:ts.length<=200){k:Nat}(h3:k<3){R:Type}{K:Int->Option R}:
 Option.bind (grd ((0:Int)<=(k:Int)/\(k:Int)<((List.length h.Guests:Nat):Int)) (cond (List.getD h.Guests k default).Live (Option.bind (iQ ts (k:Int)) λv23=>some (JO.go (w64 ((M.sumLv h ts k:Int)+v23)))) (some (JO.go (M.sumLv h ts k:Int):JO Int R)))) (λj=>JO.run j K)=K (M.sumLv h ts (k+1):Int):=by
 have hg:=hk.three;have:=aIh (h:=h) (ts:=ts) k;have:k*ts.length<=3*200:=Nat.mul_le_mul (by omega) hl;have ht:=vU (xs:=ts) (g:=(k:Int));rw[aB ⟨by omega,by omega⟩];have e:M.sumLv h ts (k+1)=M.sumLv h ts k+M.lv h ts k:=rfl;rw[e];unfold M.lv;(cases(h.Guests.getD k default).Live with|false=>rw[cFq,cFq,Nat.add_zero];rfl|true=>rw[cTq,cTq,aOf (by omega),oB,aC (by omega) (by omega),<-Int.natCast_add];rfl)
theorem aZf{m q:Int}(hm:m<=900000)(h0:0<=m)(hq:q<=100)(s:List Int×Int×List Int×Int)(hs:0<=s.2.2.2/\s.2.2.2<=q/\Rdr (m+2*(q-s.2.2.2)) ⟨s.1,s.2.1⟩/\(s.2.2.1.length:Int)+s.2.2.2<=q):
 Ex (jY s) (λo=>(∃s',o= .next s'/\(0<=s'.2.2.2/\s'.2.2.2<=q/\Rdr (m+2*(q-s'.2.2.2)) ⟨s'.1,s'.2.1⟩/\(s'.2.2.1.length:Int)+s'.2.2.2<=q)/\s'.2.2.2.toNat<s.2.2.2.toNat)\/∃t,o= .ret (.go t)/\(Rdr (m+2*q) ⟨t.2.1,t.2.2⟩/\(t.1.length:Int)<=q)):=by
 obtain⟨b,p,ts,k⟩:=s;obtain⟨k0,k1,R,hl⟩:=hs;simp only at k0 k1 R hl;unfold jY;refine Ex.cond (λhk=>?_) λhk=>?_
 · have hk:0<k:=of_decide_eq_true hk
   refine Ex.bind (aK R (by omega) (by omega)) λv4 ⟨R4,a4,b4⟩=>?_;refine Ex.bind (aK R4 (by omega) (by omega)) λv5 ⟨R5,a5,b5⟩=>?_;refine Ex.grd ⟨by simp only[List.length_cons,List.length_nil];omega,by simp only[List.length_cons,List.length_nil];omega⟩ (Ex.ret (.inl ⟨_,rfl,⟨?_,?_,?_,?_⟩,?_⟩));all_goals simp only[aC (z:=k-1) (by omega) (by omega),List.length_append,List.length_cons,List.length_nil]
   {omega};{omega};{exact R5.up (by omega)};{omega};{omega}
 {have hk:¬0<k:=of_decide_eq_false hk;exact Ex.ret (.inr ⟨_,rfl,R.up (by omega),by show(ts.length:Int)<=q;omega⟩)}
theorem bLd{m n:Int}{r:Dl20Rd}(R:Rdr m r)(h0:0<=m)(hm:m<=800000)(hn:0<=n)(hn2:n<=100):Ex (mX r n) (λv=>Rdr (m+300) v.1/\(v.2.length:Int)<=n):=by unfold mX;rw[aC (z:=n+1) (by omega) (by omega)];refine Ex.join (P:=λt:List Int×List Int×Int=>Rdr (m+300) ⟨t.2.1,t.2.2⟩/\(t.1.length:Int)<=n) ?_ λs ⟨R1,hl⟩=>?_;{refine Ex.bind (aK R (by omega) (by omega)) λv2 ⟨R2,a2,b2⟩=>?_;have key:=Ex.loopv (step:=jY) (λs:List Int×Int×List Int×Int=>0<=s.2.2.2/\s.2.2.2<=n/\Rdr (m+1+2*(n-s.2.2.2)) ⟨s.1,s.2.1⟩/\(s.2.2.1.length:Int)+s.2.2.2<=n) (λs=>s.2.2.2.toNat) (λt:List Int×List Int×Int=>Rdr (m+1+2*n) ⟨t.2.1,t.2.2⟩/\(t.1.length:Int)<=n) (s:=(v2.1.b,v2.1.p,([]:List Int),v2.2)) ⟨a2,by show v2.2<=n;omega,R2.up (by show m+1<=m+1+2*(n-v2.2);omega),by simp;omega⟩ (aZf (by omega) (by omega) hn2);exact key.mono λo ⟨t,e,h1,h2⟩=>⟨t,e,h1.up (by omega),h2⟩};{unfold uK;exact Ex.ret ⟨R1,hl⟩}
theorem aLq{xs:List Int}(hx:∀x∈xs,0<=x/\x<=255):Ex (jI xs) (λv=>SmallH v.1/\v.2.2.length<=12):=by unfold jI;refine Ex.bind (bNu hx) λr R=>?_;refine Ex.bind (bOm R (by omega) (by omega)) λv2 ⟨R2,hs⟩=>?_;refine Ex.bind (bPs R2 (by omega)) λv3 R3=>?_;refine Ex.bind (bLd R3 (by omega) (by omega) (by omega) (by omega)) λv4 ⟨_,hl⟩=>Ex.ret ⟨hs,?_⟩;show v4.2.length<=12;omega
theorem aPp{xs:List Int}(hx:∀x∈xs,0<=x/\x<=255):Ex (iB xs) (λb=>b=true):=by
 have al:Ex (Option.bind kQ λv=>some v) (λb=>b=true):=Ex.bind (bJd (Q:=λb=>b=true) rfl) λb hb=>Ex.ret hb;unfold iB;refine Ex.cond (λ_=>Ex.ret rfl) λ_=>?_;refine Ex.bind (aLq hx) λv ⟨hs,hl⟩=>?_;obtain⟨h0,g,ts⟩:=v;have hs:SmallH h0:=hs;have hl:ts.length<=12:=hl;have hz0:=aUl (g:=g) hs;dsimp only;rw[aUf hs,oB,aUk hs,oB,beq_self_eq_true,bT,cFq,dT rfl,bT,cFq,aOs hz0,oB,bT,cFq];rcases aFz (h:=h0) (g:=g)with e|e;{rw[e];exact al}
 · obtain⟨x,a,c,e⟩:=e hs
   have cs:=c.small hs;have ck:=c.hostOk;rw[e];generalize(⟨h0.Words,M.cloned h0.Guests g.toNat a⟩:DHost)=h at cs ck;have k:=fF.1 ck;have hz:=aOn (ts:=ts) cs;obtain⟨n,r⟩:=bFo (ts:=ts) cs ck (by omega);simp only[bT,cFq];rw[bEq cs,oB];have hsum:=aIh (h:=h) (ts:=ts) 3
   have key:=gE (n:=3) (step:=eO (h0,g,ts) (h,(a:Int),true)) (λi=>((M.sumLv h ts i:Int),(i:Int))) (λ_=>true) (JO.go (M.sumLv h ts 3:Int)) (JO.go (M.sumLv h ts 3:Int)) (λi hi _=>by
    simp only[eO,iT];rw[dT (p:=(i:Int)<3) (by omega),cTq,bGb k (by omega) hi];simp only[rH,cTq];rw[aC (by omega) (by omega)];rfl) (λ_=>by
    simp only[eO];rfl)
   rw[Bool.cond_self]at key;have key:iter (eO (h0,g,ts) (h,(a:Int),true)) (0,0)=_:=key;rw[key];simp only[oB,LO.val,JO.run,sF]
   have fin:iter (dH (h0,g,ts) (h,(a:Int),true) (M.hostRun h ts) (M.sumLv h ts 3:Int)) 0=some (.ret (.go ())):=by
    by_cases q:(M.hostRun h ts).2=(M.sumLv h ts 3:Int)
    · have key2:=gE (n:=3) (step:=dH (h0,g,ts) (h,(a:Int),true) (M.hostRun h ts) (M.sumLv h ts 3:Int)) (λi=>(i:Int)) (λ_=>true) (JO.go ()) (JO.go ()) (λi hi _=>by
       simp only[dH,aKm cs,aKm hz,oB];rw[dT (p:=(i:Int)<3) (by omega),cTq,dT q,cTq];have hvt:=wG (h:=h) (g:=(i:Int));cases ht:M.there h (i:Int)with
       |false=>rw[ht]at hvt;rw[r.gone i hi ht,hvt];simp only[beq_self_eq_true,bT,cFq,oB,JO.run,kW,cTq];rw[aC (by omega) (by omega)];rfl
       |true=>rw[ht]at hvt;have l:=dC cs ht;have hv:=xV l;have hb:BOk (M.hostView h (i:Int)).1:=(by rw[hv];exact lG l);have hlive:=aGq ck hi;rw[ht]at hlive;have ltt:M.lv h ts i=M.turnsOf ts (i:Int):=(by unfold M.lv;rw[<-hlive];rfl);have tl:=vU (xs:=ts) (g:=(i:Int));have en:n i=M.turnsOf ts (i:Int):=(by rw[bHk r (by omega) hi,ltt]);have sm:SmallB (M.steps (M.turnsOf ts (i:Int)) (M.hostView h (i:Int)).1):=(aBe hb _).small;rw[r.views i hi ht,hvt,en];simp only[beq_self_eq_true,bT,cFq,cTq,aOf (xs:=ts) (g:=(i:Int)) (by omega),bEg hb.small,aOp hb (n:=M.turnsOf ts (i:Int)) (by omega),aOq sm,oB,JO.run,kW];rw[aC (by omega) (by omega)];rfl) (λ_=>by
       simp only[dH];rfl)
      rw[Bool.cond_self]at key2;exact key2
    {rw[cH];simp only[dH];rw[dF q,cFq];rfl}
   rw[fin];simp only[oB,LO.val,JO.run,rY];exact al
theorem aRm{xs:List Int}(hx:∀x∈xs,0<=x/\x<=255):iB xs=some true:=by obtain⟨_,h,rfl⟩:=aPp hx;exact h
end Go.Proofs.YtobbmlnagjhofaaGreat
