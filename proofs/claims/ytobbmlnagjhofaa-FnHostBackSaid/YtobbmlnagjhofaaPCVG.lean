/- The plain functions: what they answer. -/
import Derived.Test.YtobbmlnagjhofaaPCV
import Derived.Test.YtobbmlnagjhofaaWFGV1
namespace Go.Proofs.Ytobbmlnagjhofaa
set_option linter.all false
theorem bCg{ss:List DSlot}{i:Nat}(hi:i<(M.free ss).length):M.many ss ((M.free ss).getD i default)=0:=by have hm:=dN hi;have key:∀x∈M.free ss,M.many ss x=0:=(by intro x hx;rw[lL]at hx;obtain⟨j,hj,rfl⟩:=List.mem_map.1 hx;exact of_decide_eq_true (List.mem_filter.1 hj).2);exact key _ hm
theorem bCx{ss:List DSlot}{i j:Nat}(hij:i<j)(hj:j<(M.free ss).length):(M.free ss).getD i default≠(M.free ss).getD j default:=by have hn:(M.free ss).Pairwise (·≠·):=(by rw[lL];rw[List.pairwise_map];refine((List.nodup_range (n:=20)).filter _).imp λh=>?_;omega);rw[bB (by omega),bB hj];exact List.pairwise_iff_getElem.1 hn i j (by omega) hj hij
theorem aUc{mem:List Int}{p q:Nat}(hp:M.zeros (M.page mem p)=false)(hpq:p<q):M.used mem p<M.used mem q:=by have:=tR (mem:=mem) (show p+1<=q by omega);have e:M.used mem (p+1)=M.used mem p+(bif M.zeros (M.page mem p)then 0 else 1):=rfl;rw[hp,cFq]at e;omega
def M.fr(mem:List Int)(ss:List DSlot)(p:Nat):Int:=(M.free ss).getD (M.used mem p) default
theorem rJ{mem:List Int}{ss:List DSlot}{p:Nat}(hp:M.zeros (M.page mem p)=false):M.slotFor mem (M.free ss) p=⟨M.fr mem ss p,true,false⟩:=by unfold M.slotFor;rw[hp];rfl
theorem sW{mem:List Int}{ss:List DSlot}{p:Nat}(hp:M.zeros (M.page mem p)=true):M.slotFor mem (M.free ss) p=⟨-1,false,false⟩:=by unfold M.slotFor;rw[hp];rfl
section
variable {mem ws : List Int} {ss : List DSlot} (hu : M.used mem 8 ≤ (M.free ss).length)
include hu
theorem aWy{p:Nat}(hp8:p<8)(hp:M.zeros (M.page mem p)=false):M.used mem p<(M.free ss).length:=by have:=aUc hp hp8;omega
theorem nA{p:Nat}(hp8:p<8)(hp:M.zeros (M.page mem p)=false):0<=M.fr mem ss p/\M.fr mem ss p<20:=rL (aWy hu hp8 hp)
theorem aLo{p:Nat}(hp8:p<8)(hp:M.zeros (M.page mem p)=false):M.many ss (M.fr mem ss p)=0:=bCg (aWy hu hp8 hp)
theorem aZe{p q:Nat}(hpq:p<q)(hq8:q<8)(hp:M.zeros (M.page mem p)=false)(hq:M.zeros (M.page mem q)=false):M.fr mem ss p≠M.fr mem ss q:=bCx (aUc hp hpq) (aWy hu hq8 hq)
theorem aXa{p:Nat}(hp8:p<8):M.slotOk (M.slotFor mem (M.free ss) p)=true:=by
 (cases hz:M.zeros (M.page mem p)with|true=>rw[sW hz];rfl|false=>have:=nA hu hp8 hz;rw[rJ hz];unfold M.slotOk;rw[dF (by simp only[];omega),cFq,dT (by simp only[];omega),dT (by simp only[];omega)];rfl)
theorem aGo{f:Int}(hf:0<=f):∀{n:Nat},n<=8->M.many (M.slotsFor mem (M.free ss) n) f<=1/\(M.many (M.slotsFor mem (M.free ss) n) f≠0->∃p,p<n/\M.zeros (M.page mem p)=false/\M.fr mem ss p=f)
 |0,_=>by simp[M.slotsFor,M.many]
 |n+1,h8=>by obtain⟨h1,h2⟩:=aGo hf (n:=n) (by omega);have e:M.slotsFor mem (M.free ss) (n+1)=M.slotsFor mem (M.free ss) n++[M.slotFor mem (M.free ss) n]:=(by simp[M.slotsFor,List.range_succ]);have em:M.many (M.slotsFor mem (M.free ss) (n+1)) f=M.many (M.slotsFor mem (M.free ss) n) f+(if(M.slotFor mem (M.free ss) n).Frame=f then 1 else 0):=(by rw[e];unfold M.many;rw[List.countP_append];by_cases hfe:(M.slotFor mem (M.free ss) n).Frame=f<;>simp[hfe]);rw[em];by_cases hfe:(M.slotFor mem (M.free ss) n).Frame=f;{rw[if_pos hfe];(cases hz:M.zeros (M.page mem n)with|true=>rw[sW hz]at hfe;simp only[]at hfe;omega|false=>rw[rJ hz]at hfe;have h0:M.many (M.slotsFor mem (M.free ss) n) f=0:=(by rcases Nat.eq_zero_or_pos (M.many (M.slotsFor mem (M.free ss) n) f)with h0|h0;{exact h0};{obtain⟨p,p1,p2,p3⟩:=h2 (by omega);exact absurd (p3.trans hfe.symm) (aZe hu p1 (by omega) p2 hz)});exact⟨by omega,λ_=>⟨n,by omega,hz,hfe⟩⟩)};{rw[if_neg hfe,Nat.add_zero];exact⟨h1,λh=>by obtain⟨p,p1,p2⟩:=h2 h;exact⟨p,by omega,p2⟩⟩}
theorem yA(hw:ws.length=160){a:Nat}:∀{n:Nat},n<=8->(∀p,p<n->M.zeros (M.page mem p)=false->(M.fr mem ss p).toNat≠a/8)->(M.wordsFor mem (M.free ss) ws n).getD a default=ws.getD a default
 |0,_,_=>rfl
 |n+1,h8,hn=>by have ih:=yA hw (a:=a) (n:=n) (by omega) λp hp=>hn p (by omega);have ew:M.wordsFor mem (M.free ss) ws (n+1)=(bif M.zeros (M.page mem n)then M.wordsFor mem (M.free ss) ws n else over (M.wordsFor mem (M.free ss) ws n) ((M.fr mem ss n).toNat*8) 8 (M.page mem n)):=rfl;rw[ew];(cases hz:M.zeros (M.page mem n)with|true=>exact ih|false=>have hr:=nA hu (by omega) hz;have h1:=hn n (by omega) hz;have hl:=gK (mem:=mem) (ss:=ss) hw (p:=n) (by omega) (by have:=tR (mem:=mem) (show n<=8 by omega);omega);rw[cFq];by_cases hm:n*8+8<=mem.length;{rw[aBp (xG hm) (by omega),ih];by_cases c1:a<(M.fr mem ss n).toNat*8;{rw[if_pos c1]};{rw[if_neg c1,if_neg (by omega)]}};{have hpl:(M.page mem n).length<=8:=(by simp[M.page];omega);unfold over;have e3:min 8 (M.page mem n).length=(M.page mem n).length:=(by omega);rw[e3];simp only[List.getD_eq_getElem?_getD]at ih ⊢;rw[List.take_length];by_cases c1:a<(M.fr mem ss n).toNat*8;{rw[List.getElem?_append_left (by simp;omega),List.getElem?_take_of_lt c1];exact ih};{have e4:(List.take ((M.fr mem ss n).toNat*8) (M.wordsFor mem (M.free ss) ws n)).length=(M.fr mem ss n).toNat*8:=(by simp;omega);rw[List.getElem?_append_right (by omega),e4,List.getElem?_append_right (by omega),List.getElem?_drop,show(M.fr mem ss n).toNat*8+(M.page mem n).length+(a-(M.fr mem ss n).toNat*8-(M.page mem n).length)=a by omega];exact ih}})
theorem aAg(hw:ws.length=160)(hm:mem.length=64){q k:Nat}(hk:k<8)(hz:M.zeros (M.page mem q)=false):∀{n:Nat},n<=8->q<n->(M.wordsFor mem (M.free ss) ws n).getD ((M.fr mem ss q).toNat*8+k) default=mem.getD (q*8+k) default
 |0,_,h=>by omega
 |n+1,h8,hq=>by have ew:M.wordsFor mem (M.free ss) ws (n+1)=(bif M.zeros (M.page mem n)then M.wordsFor mem (M.free ss) ws n else over (M.wordsFor mem (M.free ss) ws n) ((M.fr mem ss n).toNat*8) 8 (M.page mem n)):=rfl;have hl:=gK (mem:=mem) (ss:=ss) hw (p:=n) (by omega) (by have:=tR (mem:=mem) (show n<=8 by omega);omega);have hrq:=nA hu (by omega) hz;rw[ew];by_cases e:q=n;{subst e;rw[hz,cFq,aBp (xG (by omega)) (by omega),if_neg (by omega),if_pos (by omega)];unfold M.page;rw[aIf (by omega)];congr 1;omega};{have ih:=aAg hw hm hk hz (n:=n) (by omega) (by omega);(cases hzn:M.zeros (M.page mem n)with|true=>exact ih|false=>have hr:=nA hu (by omega) hzn;have hne:=aZe hu (show q<n by omega) (by omega) hz hzn;rw[cFq,aBp (xG (by omega)) (by omega),ih];by_cases c1:(M.fr mem ss q).toNat*8+k<(M.fr mem ss n).toNat*8;{rw[if_pos c1]};{rw[if_neg c1,if_neg (by omega)]})}
end
theorem aDh{xs:List Int}:M.wordsOk xs=true↔∀a,a<xs.length->M.wordOk (xs.getD a default)=true:=by simp only[M.wordsOk,List.all_eq_true];constructor;{intro h a ha;exact h _ (dN ha)};{intro h x hx;obtain⟨i,hi,rfl⟩:=List.mem_iff_getElem.1 hx;have:=h i hi;rwa[bB hi]at this}
theorem aNy{x:DGuest}{f:Int}:∀{gs:List DGuest} {i:Nat},i<gs.length->(gs.getD i default).Pages=[]->M.many (M.slots (gs.set i x)) f=M.many (M.slots gs) f+M.many x.Pages f
 |[],i,hi,_=>by simp at hi
 |g::gs,0,_,hp=>by have hp:g.Pages=[]:=hp;simp only[List.set_cons_zero,M.slots,List.flatMap_cons,hp,List.nil_append,M.many,List.countP_append];omega
 |g::gs,i+1,hi,hp=>by have ih:=aNy (x:=x) (f:=f) (gs:=gs) (i:=i) (by simpa using hi) hp;simp only[List.set_cons_succ,M.slots,List.flatMap_cons,M.many,List.countP_append]at ih ⊢;omega
theorem aMh{x:DGuest}{s:DSlot}:∀{gs:List DGuest} {i:Nat},s∈M.slots (gs.set i x)->s∈M.slots gs\/s∈x.Pages
 |[],i,h=>by simp[M.slots]at h
 |g::gs,0,h=>by simp only[List.set_cons_zero,M.slots,List.flatMap_cons,List.mem_append]at h ⊢;rcases h with h|h;{exact .inr h};{exact .inl (.inr h)}
 |g::gs,i+1,h=>by simp only[List.set_cons_succ,M.slots,List.flatMap_cons,List.mem_append]at h ⊢;rcases h with h|h;{exact .inl (.inl h)};{rcases aMh h with h|h;{exact .inl (.inr h)};{exact .inr h}}
namespace M
def backS(s:DSlot):DSlot:=⟨s.Frame,s.Write,s.Write⟩
noncomputable def backed (h:DHost)(b:DBare)(a:Nat):DHost:=⟨wordsFor b.Mem (free (slots h.Guests)) h.Words 8,h.Guests.set a ⟨true,b.C,(slotsFor b.Mem (free (slots h.Guests)) 8).map backS,b.In,b.Out⟩⟩
def left(h:DHost)(g:Int):DHost:=⟨h.Words,h.Guests.set g.toNat noGuest⟩
noncomputable def hostBack (h:DHost)(g:Int)(b:DBare):DHost×Bool:=bif there h g&&bareOk b&&decide (used b.Mem 8<=(free (slots (left h g).Guests)).length)then(backed (left h g) b g.toNat,true)else(⟨[],[]⟩,false)
end M
theorem aMx{f:Int}:∀{ps:List DSlot},M.many (ps.map M.backS) f=M.many ps f
 |[]=>rfl
 |s::ps=>by rw[List.map_cons,gU,gU,aMx];rfl
theorem bHk{s:DSlot}(h:M.slotOk s=true):M.slotOk (M.backS s)=true:=by unfold M.slotOk M.backS at*;by_cases e:s.Frame=-1;{rw[dT e,cTq]at h ⊢;rw[bA]at h;rw[h.1];rfl};{rw[dF e,cFq]at h ⊢;exact h}
theorem bDc{ws:List Int}{ps:List DSlot}(hl:ps.length=8):M.mem ws (ps.map M.backS)=M.mem ws ps:=mem_map (f:=M.backS) (λ_=>rfl) hl
structure Bk (h : DHost) (b : DBare) (a : Nat) : Prop where
 hs:SmallH h
 hb:SmallB b
 ok:HOk h
 bok:M.bareOk b=true
 lt:a<3
 none:h.Guests.getD a default=M.noGuest
 enough:M.used b.Mem 8<=(M.free (M.slots h.Guests)).length
section
variable {h : DHost} {b : DBare} {a0 : Nat} (t : Bk h b a0)
include t
theorem aRl:b.Mem.length=64/\M.wordsOk b.Mem=true/\M.coreOk b.C=true/\M.rowOk b.In=true/\M.rowOk b.Out=true:=by have hb:=t.bok;unfold M.bareOk M.memOk at hb;simp only[bA,decide_eq_true_eq]at hb;exact⟨hb.1.1.2.1,hb.1.1.2.2,hb.1.1.1,hb.1.2,hb.2⟩
theorem aGk:(M.backed h b a0).Words.length=160:=gK t.ok.len (by omega) t.enough
theorem aOv:SmallH (M.backed h b a0):=by have h3:=t.hs.guests;refine⟨by rw[aGk t];omega,by simpa[M.backed]using h3,λg hg=>?_⟩;rcases List.mem_or_eq_of_mem_set hg with hg|rfl;{exact t.hs.all g hg};{exact⟨t.hb.c,by simp[M.slotsFor],t.hb.i,t.hb.o⟩}
theorem bGo{a:Nat}(ha:a<160):(M.backed h b a0).Words.getD a default=h.Words.getD a default\/∃i,i<64/\(M.backed h b a0).Words.getD a default=b.Mem.getD i default:=by obtain⟨hm,_⟩:=aRl t;by_cases hc:∀p,p<8->M.zeros (M.page b.Mem p)=false->(M.fr b.Mem (M.slots h.Guests) p).toNat≠a/8;{exact .inl (yA t.enough t.ok.len (by omega) hc)};{right;have:∃p,p<8/\M.zeros (M.page b.Mem p)=false/\(M.fr b.Mem (M.slots h.Guests) p).toNat=a/8:=(by apply Classical.byContradiction;intro hn;exact hc λp hp hz he=>hn ⟨p,hp,hz,he⟩);obtain⟨p,hp,hz,he⟩:=this;refine⟨p*8+a%8,by omega,?_⟩;have:=aAg t.enough t.ok.len hm (q:=p) (k:=a%8) (by omega) hz (n:=8) (by omega) hp;rw[he,show a/8*8+a%8=a by omega]at this;exact this}
theorem aWw:HOk (M.backed h b a0):=by
 obtain⟨hm,hw,hc,hi,ho⟩:=aRl t;have g3:=t.lt;have gp:(h.Guests.getD a0 default).Pages=[]:=(by rw[t.none];rfl);have h3:=t.ok.three;refine⟨aGk t,?_,by simpa[M.backed]using h3,?_,?_⟩;{rw[aDh];intro a ha;rw[aGk t]at ha;rcases bGo t ha with e|⟨i,hi,e⟩;{rw[e];exact aDh.1 t.ok.words a (by rw[t.ok.len];exact ha)};{rw[e];exact aDh.1 hw i (by rw[hm];exact hi)}};{rw[List.all_eq_true];intro x hx;rcases List.mem_or_eq_of_mem_set hx with hx|rfl;{exact List.all_eq_true.1 t.ok.all x hx};{unfold M.guestOk;simp only[cTq,bA,decide_eq_true_eq];refine⟨⟨⟨hc,by simp[M.slotsFor],?_⟩,hi⟩,ho⟩;rw[List.all_eq_true];intro s hs;obtain⟨r,hr,rfl⟩:=List.mem_map.1 hs;obtain⟨p,hp,rfl⟩:=List.mem_map.1 hr;exact bHk (aXa t.enough (List.mem_range.1 hp))}}
 · simp only[M.alone,List.all_eq_true,Bool.or_eq_true,Bool.not_eq_true',decide_eq_true_eq]
   intro s hs;have ha:=t.ok.alone;simp only[M.alone,List.all_eq_true,Bool.or_eq_true,Bool.not_eq_true',decide_eq_true_eq]at ha;have hmany:∀f,M.many (M.slots (M.backed h b a0).Guests) f=M.many (M.slots h.Guests) f+M.many (M.slotsFor b.Mem (M.free (M.slots h.Guests)) 8) f:=λf=>(aNy (by omega) gp).trans (by rw[aMx]);cases hsw:s.Write with
   |false=>exact .inl rfl
   |true=>
    right;rw[hmany];rcases aMh hs with h1|h1
    · have h2:=(ha s h1).resolve_left (by rw[hsw];simp)
      have hok:=List.all_eq_true.1 (tM t.ok.all) s h1;have hr:=gC hok;have hf:s.Frame≠-1:=λe=>by unfold M.slotOk at hok;rw[dT e,hsw]at hok;simp at hok
      obtain⟨n1,n2⟩:=aGo (ss:=M.slots h.Guests) (mem:=b.Mem) t.enough (f:=s.Frame) (by omega) (n:=8) (Nat.le_refl _);rcases Nat.eq_zero_or_pos (M.many (M.slotsFor b.Mem (M.free (M.slots h.Guests)) 8) s.Frame)with z|z;{omega};{obtain⟨p,p1,p2,p3⟩:=n2 (by omega);have:=aLo t.enough p1 p2;rw[p3]at this;have hpos:0<M.many (M.slots h.Guests) s.Frame:=(by unfold M.many;rw[List.countP_pos_iff];exact⟨s,h1,dT rfl⟩);omega}
    {obtain⟨r,hr,rfl⟩:=List.mem_map.1 (show s∈(M.slotsFor b.Mem (M.free (M.slots h.Guests)) 8).map M.backS from h1);obtain⟨p,hp,rfl⟩:=List.mem_map.1 hr;have hp:=List.mem_range.1 hp;have hsw:(M.slotFor b.Mem (M.free (M.slots h.Guests)) p).Write=true:=hsw;show M.many (M.slots h.Guests) (M.slotFor b.Mem (M.free (M.slots h.Guests)) p).Frame+M.many (M.slotsFor b.Mem (M.free (M.slots h.Guests)) 8) (M.slotFor b.Mem (M.free (M.slots h.Guests)) p).Frame<=1;(cases hz:M.zeros (M.page b.Mem p)with|true=>rw[sW hz]at hsw;cases hsw|false=>have hr:=nA t.enough hp hz;have h0:=aLo t.enough hp hz;rw[rJ hz];obtain⟨n1,_⟩:=aGo (ss:=M.slots h.Guests) (mem:=b.Mem) t.enough (f:=M.fr b.Mem (M.slots h.Guests) p) hr.1 (n:=8) (Nat.le_refl _);simp only[];omega)}
theorem aZw:M.mem (M.backed h b a0).Words ((M.slotsFor b.Mem (M.free (M.slots h.Guests)) 8).map M.backS)=b.Mem:=by rw[bDc (by simp[M.slotsFor])];obtain⟨hm,_⟩:=aRl t;refine aBq jR hm λa ha=>?_;rw[qF ha];have hg:(M.slotsFor b.Mem (M.free (M.slots h.Guests)) 8).getD (a/8) default=M.slotFor b.Mem (M.free (M.slots h.Guests)) (a/8):=(by rw[bB (by simp[M.slotsFor];omega)];simp[M.slotsFor]);unfold M.word;rw[hg];(cases hz:M.zeros (M.page b.Mem (a/8))with|true=>rw[sW hz,if_pos (by simp)];unfold M.zeros at hz;rw[List.all_eq_true]at hz;have:=of_decide_eq_true (hz (a%8) (by rw[List.mem_range];omega));unfold M.page at this;rw[aIf (by omega),show a/8*8+a%8=a by omega]at this;exact this.symm|false=>have hr:=nA t.enough (p:=a/8) (by omega) hz;rw[rJ hz,if_neg (by simp only[];omega)];have:=aAg t.enough t.ok.len hm (q:=a/8) (k:=a%8) (by omega) hz (n:=8) (by omega) (by omega);rw[show a/8*8+a%8=a by omega]at this;exact this)
theorem bFt:M.hostView (M.backed h b a0) (a0:Int)=(b,true):=by have g3:=t.lt;have h3:=t.ok.three;have hg:(M.backed h b a0).Guests.getD a0 default=⟨true,b.C,(M.slotsFor b.Mem (M.free (M.slots h.Guests)) 8).map M.backS,b.In,b.Out⟩:=(by show(h.Guests.set a0 _).getD _ _=_;rw[bB (by rw[lS];omega),List.getElem_set_self]);have ht:M.there (M.backed h b a0) (a0:Int)=true:=lD.2 ⟨aWw t,by omega,by omega,by rw[iT,hg]⟩;unfold M.hostView;rw[ht,iT,hg,cTq];simp only[];rw[aZw t]
theorem bBz{k:Nat}(hk:k<3)(hne:(k:Int)≠(a0:Int)):M.hostView (M.backed h b a0) (k:Int)=M.hostView h (k:Int):=by have g3:=t.lt;have h3:=t.ok.three;have hg:(M.backed h b a0).Guests.getD k default=h.Guests.getD k default:=(by show(h.Guests.set a0 _).getD _ _=_;rw[bB (by rw[lS];omega),List.getElem_set_ne (by omega),<-bB]);have e1:M.there (M.backed h b a0) (k:Int)=M.there h (k:Int):=(by unfold M.there;rw[cK.2 (aWw t),cK.2 t.ok,iT,hg]);unfold M.hostView;rw[e1,iT,hg];(cases ht:M.there h (k:Int)with|false=>rfl|true=>have l:=cC t.hs ht;rw[iT]at l;have hp:=l.pages;have:M.mem (M.backed h b a0).Words (h.Guests.getD k default).Pages=M.mem h.Words (h.Guests.getD k default).Pages:=(by refine aBq jR jR λa ha=>?_;rw[qF ha,qF ha];unfold M.word;have hr:=aDy l.slots (i:=a/8) (by omega);split;{rfl};{rename_i hf;refine yA t.enough t.ok.len (by omega) λp hp8 hz he=>?_;have h0:=aLo t.enough hp8 hz;have hr2:=nA t.enough hp8 hz;have hpos:0<M.many (M.slots h.Guests) (M.fr b.Mem (M.slots h.Guests) p):=(by unfold M.many;rw[List.countP_pos_iff];refine⟨(h.Guests.getD k default).Pages.getD (a/8) default,?_,?_⟩;{simp only[M.slots,List.mem_flatMap];exact⟨_,dN (by omega),dN (by omega)⟩};{rw[decide_eq_true_eq];omega});omega});rw[this])
end
theorem aUz{h:DHost}{g:Int}{b:DBare}(hs:SmallH h)(hb:SmallB b)(ht:(M.hostBack h g b).2=true):M.there h g=true/\Bk (M.left h g) b g.toNat/\M.hostBack h g b=(M.backed (M.left h g) b g.toNat,true):=by unfold M.hostBack at ht ⊢;(cases hc:(M.there h g&&M.bareOk b&&decide (M.used b.Mem 8<=(M.free (M.slots (M.left h g).Guests)).length))with|false=>rw[hc]at ht;cases ht|true=>simp only[bA,decide_eq_true_eq]at hc;obtain⟨⟨th,bo⟩,en⟩:=hc;have l:=cC hs th;have h3:=l.ok.three;have:=l.lo;have:=l.hi;have e:(M.hostDrop h g).1=M.left h g:=(by unfold M.hostDrop;rw[th];rfl);have dok:M.hostOk (M.left h g)=true:=(by rw[<-e];exact yH th);have dsm:SmallH (M.left h g):=(by rw[<-e];exact aIr hs);exact⟨th,⟨dsm,hb,cK.1 dok,bo,by omega,nS (by omega),en⟩,rfl⟩)
theorem aWu{h:DHost}{g:Int}{b:DBare}(hs:SmallH h)(hb:SmallB b):SmallH (M.hostBack h g b).1:=by
 (cases e:(M.hostBack h g b).2 with|true=>obtain⟨-,t,e⟩:=aUz hs hb e;rw[e];exact aOv t|false=>have:(M.hostBack h g b).1=⟨[],[]⟩:=(by unfold M.hostBack at e ⊢;(cases hc:(M.there h g&&M.bareOk b&&decide (M.used b.Mem 8<=(M.free (M.slots (M.left h g).Guests)).length))with|false=>rfl|true=>rw[hc]at e;cases e));rw[this];exact⟨by simp,by simp,by simp⟩)
theorem bAt{h:DHost}{g:Int}(hs:SmallH h)(th:M.there h g=true){k:Nat}(h3:k<3)(hn:(k:Int)≠g):M.hostView (M.left h g) (k:Int)=M.hostView h (k:Int):=by have l:=cC hs th;have hl:=l.ok.three;have:=l.lo;have:=l.hi;have e:(M.hostDrop h g).1=M.left h g:=(by unfold M.hostDrop;rw[th];rfl);have dok:M.hostOk (M.left h g)=true:=(by rw[<-e];exact yH th);have hk:(M.left h g).Guests.getD k default=h.Guests.getD k default:=rW (by omega) (by omega);unfold M.hostView M.there;rw[dok,cK.2 l.ok,iT,hk];rfl
namespace M
def dirtyS(s:DSlot):DSlot:=⟨s.Frame,s.Write,!decide (s.Frame=-1)⟩
end M
theorem aXs{ps:List DSlot}(h:ps.length<=1048576):jZ ps=some (ps.map M.dirtyS):=by
 unfold jZ;rw[oE h,oB]
 have key:=cN (n:=ps.length) (step:=gT ps) (λk=>(up M.dirtyS k ps,(k:Int))) (λ_=>true) (JO.go (ps.map M.dirtyS)) (JO.go (ps.map M.dirtyS)) (λk hk _=>by
  have hl:=zN (f:=M.dirtyS) (k:=k) (xs:=ps);have hp:=aEi (f:=M.dirtyS) hk;simp only[gT,iT];rw[dT (p:=(k:Int)<_) (by omega),cTq,aE ⟨by omega,by omega⟩,aE ⟨by omega,by omega⟩,aD (by omega) (by omega),aJg hk,cTq,<-hp];rfl) (λ_=>by
  simp only[gT];rw[dF (by omega),cFq,aCk (Nat.le_refl _)])
 rw[Bool.cond_self]at key;have e:up M.dirtyS 0 ps=ps:=zL;rw[e]at key;show Option.bind (Option.bind (iter (gT ps) (ps,((0:Nat):Int))) LO.val) _=_;rw[key];rfl
theorem aXg{mem:List Int}{ss:List DSlot}(hu:M.used mem 8<=(M.free ss).length):(M.slotsFor mem (M.free ss) 8).map M.dirtyS=(M.slotsFor mem (M.free ss) 8).map M.backS:=by refine List.map_congr_left λs hs=>?_;obtain⟨p,hp,rfl⟩:=List.mem_map.1 hs;have hp:=List.mem_range.1 hp;(cases hz:M.zeros (M.page mem p)with|true=>rw[sW hz];rfl|false=>have:=nA hu hp hz;rw[rJ hz];unfold M.dirtyS M.backS;rw[dF (by show M.fr mem ss p≠-1;omega)];rfl)
section
variable {h : DHost} {g : Int}
theorem aVz(th:M.there h g=true):(M.hostDrop h g).1=M.left h g:=by unfold M.hostDrop;rw[th];rfl
theorem aUe(th:M.there h g=true):HOk (M.left h g):=by rw[<-aVz th];exact cK.1 (yH th)
theorem aKj(hs:SmallH h)(th:M.there h g=true):SmallH (M.left h g):=by rw[<-aVz th];exact aIr hs
end
theorem aWi{h:DHost}{g:Int}{b:DBare}(hs:SmallH h)(hb:SmallB b):hO h g b=some (M.hostBack h g b):=by unfold hO M.hostBack;rw[vB hs,oB];(cases ht:M.there h g with|false=>rfl|true=>have l:=cC hs ht;have hk:=l.ok;have h3:=hk.three;have:=l.lo;have:=l.hi;have lk:=aUe ht;have ls:=aKj hs ht;have l3:=lk.three;rw[bT,cFq,bCr hb,oB,Bool.true_and];(cases hbk:M.bareOk b with|false=>rfl|true=>rw[bT,cFq,Bool.true_and];show Option.bind (eK h.Guests g M.noGuest) _=_;rw[aGj hs hk l.lo l.hi,oB];show Option.bind (eE (M.left h g) g b) _=_;rw[aKu ls lk hb hbk l.lo l.hi,oB];by_cases e:M.used b.Mem 8<=(M.free (M.slots (M.left h g).Guests)).length;{rw[dT e];have e1:(M.placed (M.left h g) b g.toNat).Guests.getD g.toNat default=⟨true,b.C,M.slotsFor b.Mem (M.free (M.slots (M.left h g).Guests)) 8,b.In,b.Out⟩:=nS (by omega);have gl:(M.placed (M.left h g) b g.toNat).Guests.length=3:=(by show(List.set _ _ _).length=3;rw[lS];exact l3);simp only[cTq,bT,cFq,e1];rw[aE ⟨by omega,by omega⟩,aXs (by simp[M.slotsFor]),oB,aE ⟨by omega,by omega⟩,aXg e];show some ((⟨M.wordsFor b.Mem (M.free (M.slots (M.left h g).Guests)) (M.left h g).Words 8,((M.left h g).Guests.set g.toNat _).set g.toNat _⟩:DHost),true)=_;rw[List.set_set];rfl};{rw[dF e];rfl}))
theorem aXk{b:DBare}{s:List Int×List Int×List DSlot×Int}{p:Nat}(hp:p<8)(hs:s.2.2.2=(p:Int))(hm:b.Mem.length=64):iter (fM b s) (true,0)=some (.ret (.go (M.zeros (M.page b.Mem p)))):=by
 have hl:=xG (xs:=b.Mem) (p:=p) (by omega)
 have key:=cN (n:=8) (step:=fM b s) (λk=>((List.range k).all λj=>decide ((M.page b.Mem p).getD j default=0),(k:Int))) (λ_=>true) (JO.go (M.zeros (M.page b.Mem p))) (.go true) (λk hk _=>by
  simp only[fM,hs,xK hp,iT];rw[dT (p:=(k:Int)<8) (by omega),cTq];have er:((List.range (k+1)).all λj=>decide ((M.page b.Mem p).getD j default=0))=(((List.range k).all λj=>decide ((M.page b.Mem p).getD j default=0))&&decide ((M.page b.Mem p).getD k default=0)):=(by rw[List.range_succ,List.all_append];simp);rw[er];cases((List.range k).all λj=>decide ((M.page b.Mem p).getD j default=0))with
  |true=>rw[cTq,aE ⟨by omega,by omega⟩];simp only[oB,JO.run,mJ,Bool.true_and,cTq];rw[aD (by omega) (by omega)];rfl
  |false=>simp only[cFq,oB,JO.run,mJ,Bool.false_and,cTq];rw[aD (by omega) (by omega)];rfl) (λ_=>by
  simp only[fM];rfl)
 rw[show(List.range 8).all (λ_=>true)=true by simp,cTq]at key;exact key
def qR(mem free:List Int)(n:Nat):List DSlot:=(M.slotsFor mem free n).map M.backS
theorem aSo{b:DBare}{ws:List Int}{ss:List DSlot}(hw:ws.length=160)(hm:b.Mem.length=64):
 iter (gL b) (ws,M.free ss,[],0)=some (.ret (bif decide (M.used b.Mem 8<=(M.free ss).length)then .go (M.wordsFor b.Mem (M.free ss) ws 8,qR b.Mem (M.free ss) 8)else .out (⟨[],[]⟩,false))):=by
 have hfl:=zO (ss:=ss)
 have key:=cN (n:=8) (step:=gL b) (λp=>(M.wordsFor b.Mem (M.free ss) ws p,(M.free ss).drop (M.used b.Mem p),qR b.Mem (M.free ss) p,(p:Int))) (λp=>M.zeros (M.page b.Mem p)||decide (M.used b.Mem p<(M.free ss).length))
  (JO.go (M.wordsFor b.Mem (M.free ss) ws 8,qR b.Mem (M.free ss) 8)) (.out (⟨[],[]⟩,false)) (λp hp ho=>by
  have hu:M.used b.Mem p<=(M.free ss).length:=(by have:((List.range p).all λp=>M.zeros (M.page b.Mem p)||decide (M.used b.Mem p<(M.free ss).length))=true:=(by simp only[List.all_eq_true,List.mem_range];exact ho);rw[oL,decide_eq_true_eq]at this;exact this);have hlen:=gK (mem:=b.Mem) (ss:=ss) hw (p:=p) (by omega) hu;have hpl:=xG (xs:=b.Mem) (p:=p) (by omega);have hsl:(qR b.Mem (M.free ss) p).length=p:=(by simp[qR,M.slotsFor]);have es:qR b.Mem (M.free ss) (p+1)=qR b.Mem (M.free ss) p++[M.backS (M.slotFor b.Mem (M.free ss) p)]:=(by simp[qR,M.slotsFor,List.range_succ]);have ew:M.wordsFor b.Mem (M.free ss) ws (p+1)=(bif M.zeros (M.page b.Mem p)then M.wordsFor b.Mem (M.free ss) ws p else over (M.wordsFor b.Mem (M.free ss) ws p) (((M.free ss).getD (M.used b.Mem p) default).toNat*8) 8 (M.page b.Mem p)):=rfl;have eu:M.used b.Mem (p+1)=M.used b.Mem p+(bif M.zeros (M.page b.Mem p)then 0 else 1):=rfl;have b1:w64 ((p:Int)*8)=(p:Int)*8:=aD (by omega) (by omega);have b2:w64 ((w64 ((p:Int)+1))*8)=((p:Int)+1)*8:=(by rw[aD (z:=(p:Int)+1) (by omega) (by omega),aD (by omega) (by omega)]);simp only[gL];rw[dT (p:=(p:Int)<8) (by omega),cTq,aE ⟨by omega,by omega,by omega⟩,aXk hp rfl hm];simp only[oB,LO.val,JO.run,tX,xK hp];cases hz:M.zeros (M.page b.Mem p)with
  |true=>have:(⟨-1,false,false⟩:DSlot)=M.backS (M.slotFor b.Mem (M.free ss) p):=(by unfold M.slotFor;rw[hz];rfl);rw[hz,cTq]at ew eu;rw[cTq,aE ⟨by simp;omega,by simp;omega⟩];simp only[oB,JO.run,nR,Bool.true_or,cTq];rw[aD (by omega) (by omega),this,<-es,ew,eu];rfl
  |false=>
   have:(⟨(M.free ss).getD (M.used b.Mem p) default,true,true⟩:DSlot)=M.backS (M.slotFor b.Mem (M.free ss) p):=(by unfold M.slotFor;rw[hz];rfl);rw[hz,cFq]at ew eu;rw[cFq,Bool.false_or];by_cases e:M.used b.Mem p<(M.free ss).length;{have hr:=rL (ss:=ss) (i:=M.used b.Mem p) e;have hdl:((M.free ss).drop (M.used b.Mem p)).length=(M.free ss).length-M.used b.Mem p:=(by simp);rw[dF (p:=(((List.drop (M.used b.Mem p) (M.free ss)).length:Nat):Int)=0) (by omega),cFq,show Int.toNat (0:Int)=0 from rfl,aQb];rw[aD (z:=(M.free ss).getD (M.used b.Mem p) default*8) (by omega) (by omega),aE ⟨by omega,by omega⟩,aE ⟨by omega,by omega,by omega⟩,aE ⟨by omega,by omega⟩,aE ⟨by simp;omega,by simp;omega⟩,aE ⟨by omega,by omega,by omega⟩];simp only[oB,JO.run,nR];rw[aD (by omega) (by omega),this,<-es,aNa rfl,aRn hpl (by omega),dT e,ew,eu];rw[show Int.toNat ((M.free ss).getD (M.used b.Mem p) default*8)=((M.free ss).getD (M.used b.Mem p) default).toNat*8 by omega];rfl}
   · rw[dF e,dT (p:=(((List.drop (M.used b.Mem p) (M.free ss)).length:Nat):Int)=0) (by simp;omega)];rfl) (λ_=>by
  simp only[gL];rfl)
 rw[oL]at key;exact key
theorem aXj{h:DHost}{g:Int}{b:DBare}(hs:SmallH h)(hb:SmallB b):mP h g b=some (M.hostBack h g b):=by unfold mP M.hostBack;rw[aEa hs,oB];(cases ht:M.there h g with|false=>rfl|true=>have l:=cC hs ht;have hk:=l.ok;have h3:=hk.three;have:=l.lo;have:=l.hi;have lk:=aUe ht;have ls:=aKj hs ht;have l3:=lk.three;rw[bT,cFq,aRw hb,oB,Bool.true_and];(cases hbk:M.bareOk b with|false=>rfl|true=>have hm:=aCs hbk;have:=hb.i;have:=hb.o;have ef:M.hostFree (M.left h g)=M.free (M.slots (M.left h g).Guests):=(by unfold M.hostFree;rw[cK.2 lk];rfl);have ed:M.hostDrop h g=(M.left h g,true):=(by unfold M.hostDrop;rw[ht];rfl);rw[bT,cFq,Bool.true_and,aXm hs,oB,ed];simp only[bT,cFq];rw[aBa ls,oB,ef,aIm hb.c,oB,aE ⟨by omega,by omega⟩,aE ⟨by omega,by omega⟩,aSo lk.len hm];(cases decide (M.used b.Mem 8<=(M.free (M.slots (M.left h g).Guests)).length)with|false=>rfl|true=>simp only[cTq,oB,LO.val,JO.run,tD];rw[aE ⟨by omega,by omega⟩];rfl)))
structure FG (gs : List DGuest) : Prop where
 three:gs.length=3
 all:∀g∈gs,SmallG g/\g.Pages.length<=8
theorem FG.get{gs:List DGuest}(h:FG gs){i:Nat}(hi:i<3):SmallG (gs.getD i default)/\(gs.getD i default).Pages.length<=8:=h.all _ (dN (by rw[h.three];exact hi))
theorem FG.set{gs:List DGuest}{i:Nat}{x:DGuest}(h:FG gs)(hx:SmallG x/\x.Pages.length<=8):FG (gs.set i x):=by refine⟨by rw[lS];exact h.three,λg hg=>?_⟩;rcases List.mem_or_eq_of_mem_set hg with hg|rfl;{exact h.all g hg};{exact hx}
theorem FG.host{gs:List DGuest}{ws:List Int}(h:FG gs)(hw:ws.length<=1048576):SmallH ⟨ws,gs⟩:=⟨hw,by simp only[h.three];omega,λg hg=>(h.all g hg).1⟩
theorem bCh {v1:Dl20Rd×DHost} {m:Int} (hw:v1.2.Words.length<=1048576) (hm:m<=900000) (h0:0<=m) {q:Int} (q0:0<=q) (q1:q<3) (s5:List Int×Int×List DGuest×Int) (e5:s5.2.2.2=q) (s:List Int×Int×List DGuest×Int)
 (hs:0<=s.2.2.2/\s.2.2.2<=8/\Rdr (m+s.2.2.2) ⟨s.1,s.2.1⟩/\FG s.2.2.1):
 Ex (oW v1 s5 s) (λo=>(∃s',o= .next s'/\(0<=s'.2.2.2/\s'.2.2.2<=8/\Rdr (m+s'.2.2.2) ⟨s'.1,s'.2.1⟩/\FG s'.2.2.1)/\8-s'.2.2.2.toNat<8-s.2.2.2.toNat)\/∃t:List Int×Int×List DGuest,o= .ret (.go t)/\(Rdr (m+8) ⟨t.1,t.2.1⟩/\FG t.2.2)):=by
 obtain⟨b,p,gs,k⟩:=s;obtain⟨k0,k1,R,hg⟩:=hs;simp only at k0 k1 R hg;have h3:=hg.three;have gq:=hg.get (i:=q.toNat) (by omega);unfold oW;simp only[e5];refine Ex.grd ⟨q0,by omega⟩ (Ex.cond (λhk=>?_) λ_=>Ex.ret (.inr ⟨_,rfl,R.up (by omega),hg⟩));have hk:=of_decide_eq_true hk;refine Ex.join (P:=λs:List Int×Int×List DGuest=>Rdr (m+k+1) ⟨s.1,s.2.1⟩/\FG s.2.2) ?_ λs ⟨R1,h1⟩=>?_;{rw[aBa (hg.host hw),oB];refine Ex.grd ⟨q0,by omega⟩ (Ex.grd ⟨k0,hk⟩ (Ex.cond (λ_=>?_) λ_=>Ex.ret ⟨_,rfl,R.up (by omega),hg⟩));refine Ex.cond (λhl=>?_) λ_=>Ex.ret ⟨_,rfl,R.up (by omega),hg⟩;have hl:=of_decide_eq_true hl;refine Ex.bind (aL R (by omega) (by omega)) λv10 ⟨R10,_,_⟩=>?_;refine Ex.cond (λ_=>?_) λ_=>Ex.ret ⟨_,rfl,R10.up (by omega),hg⟩;refine Ex.grd ⟨q0,by omega⟩ (Ex.grd ⟨by omega,hl⟩ (Ex.grd ⟨k0,hk⟩ (Ex.ret ⟨_,rfl,R10.up (by omega),?_⟩)));exact hg.set ⟨⟨⟨gq.1.c.regs⟩,by simpa only[lS]using gq.1.pages,gq.1.i,gq.1.o⟩,by simpa only[lS]using gq.2⟩}
 · unfold uV
   refine Ex.ret (.inl ⟨_,rfl,⟨?_,?_,?_,h1⟩,?_⟩);all_goals simp only[aD (z:=k+1) (by omega) (by omega)]
   {omega};{omega};{exact R1.up (by omega)};{omega}
theorem bAe{m:Int}{r:Dl20Rd}(R:Rdr m r)(h0:0<=m)(hm:m<=400000):Ex (kP r) (λv=>Rdr (m+12100) v.1/\SmallH v.2):=by
 unfold kP;refine Ex.bind (aZb R h0 (by omega)) λv1 ⟨R1,hs⟩=>?_;refine Ex.join (P:=λs:List DGuest×List Int×Int=>Rdr (m+12100) ⟨s.2.1,s.2.2⟩/\SmallH ⟨v1.2.Words,s.1⟩) ?_ λs h=>Ex.ret h;refine Ex.bind (aL R1 (by omega) (by omega)) λv3 ⟨R3,_,_⟩=>?_;refine Ex.cond (λ_=>?_) λ_=>Ex.ret ⟨_,rfl,R3.up (by omega),hs⟩;rw[aAh hs,oB];cases hok:M.hostOk v1.2 with
 |false=>exact Ex.ret ⟨_,rfl,R3.up (by omega),hs⟩
 |true=>
  have hk:=cK.1 hok;have g0:FG v1.2.Guests:=⟨hk.three,λg hg=>⟨hs.all g hg,(fY (List.all_eq_true.1 hk.all g hg)).2⟩⟩;rw[cTq];refine Ex.loopv (λs:List Int×Int×List DGuest×Int=>0<=s.2.2.2/\s.2.2.2<=3/\Rdr (m+12001+8*s.2.2.2) ⟨s.1,s.2.1⟩/\FG s.2.2.1) (λs=>3-s.2.2.2.toNat) (λt:List DGuest×List Int×Int=>Rdr (m+12100) ⟨t.2.1,t.2.2⟩/\SmallH ⟨v1.2.Words,t.1⟩) ⟨by simp,by simp,R3.up (by simp;omega),g0⟩ λs5 ⟨k0,k1,R5,g5⟩=>?_;obtain⟨b,p,gs,k⟩:=s5;simp only at k0 k1 R5 g5;unfold uZ;refine Ex.cond (λhk=>?_) λ_=>Ex.ret (.inr ⟨_,rfl,R5.up (by omega),g5.host hs.words⟩);have hk:=of_decide_eq_true hk;simp only at hk;refine Ex.join (Ex.loopv (λs:List Int×Int×List DGuest×Int=>0<=s.2.2.2/\s.2.2.2<=8/\Rdr (m+12001+8*k+s.2.2.2) ⟨s.1,s.2.1⟩/\FG s.2.2.1) (λs=>8-s.2.2.2.toNat) (λt:List Int×Int×List DGuest=>Rdr (m+12001+8*k+8) ⟨t.1,t.2.1⟩/\FG t.2.2) ⟨by simp,by simp,R5.up (by simp),g5⟩ (bCh hs.words (by omega) (by omega) k0 hk (b,p,gs,k) rfl)) λt ⟨R6,g6⟩=>?_;unfold uR;refine Ex.ret (.inl ⟨_,rfl,⟨?_,?_,?_,g6⟩,?_⟩);all_goals simp only[aD (z:=k+1) (by omega) (by omega)]
  {omega};{omega};{exact R6.up (by omega)};{omega}
theorem aWc{xs:List Int}(hx:∀x∈xs,0<=x/\x<=255):Ex (jN xs) (λv=>SmallH v.1/\SmallB v.2.2):=by unfold jN;refine Ex.bind (aQv hx) λr R=>?_;refine Ex.bind (bAe R (by omega) (by omega)) λv2 ⟨R2,hs⟩=>?_;refine Ex.bind (bDh R2 (by omega)) λv3 R3=>?_;rw[aYi hs,oB];have sv:=zQ (g:=v3.2) hs;refine Ex.join (P:=λs:(List Int)×Int×Int×Int×Int×Bool×Int×Int×Int×Bool×Bool×Bool×Bool×(List Int)×(List Int)×(List Int)=>s.1.length<=1048576/\s.2.2.2.2.2.2.2.2.2.2.2.2.2.1.length<=1048576/\s.2.2.2.2.2.2.2.2.2.2.2.2.2.2.1.length<=1048576/\s.2.2.2.2.2.2.2.2.2.2.2.2.2.2.2.length<=1048576) ?_ λs ⟨s1,s2,s3,s4⟩=>Ex.ret ⟨hs,⟨⟨s1⟩,s2,s3,s4⟩⟩;refine Ex.cond (λ_=>?_) λ_=>?_;{refine Ex.bind (aSd R3 (by omega) (by omega)) λv6 ⟨_,t,_⟩=>Ex.ret ⟨_,rfl,t.small.c.regs,t.small.mem,t.small.i,t.small.o⟩};{refine Ex.bind (aL R3 (by omega) (by omega)) λv7 ⟨R7,_,_⟩=>?_;refine Ex.cond (λ_=>?_) λ_=>Ex.ret ⟨_,rfl,sv.c.regs,sv.mem,sv.i,sv.o⟩;refine Ex.bind (aSd R7 (by omega) (by omega)) λv8 ⟨_,t,_⟩=>Ex.ret ⟨_,rfl,t.small.c.regs,t.small.mem,t.small.i,t.small.o⟩}
theorem aQr{xs:List Int}(hx:∀x∈xs,0<=x/\x<=255):Ex (iK xs) (λb=>b=true):=by have al:Ex (Option.bind eV λv=>some v) (λb=>b=true):=Ex.bind (aKr (Q:=λb=>b=true) rfl) λb hb=>Ex.ret hb;unfold iK;refine Ex.cond (λ_=>Ex.ret rfl) λ_=>?_;refine Ex.bind (aWc hx) λv ⟨hs,hb⟩=>?_;obtain⟨h,g,b⟩:=v;have hs:SmallH h:=hs;have hb:SmallB b:=hb;have hz:=aWu (g:=g) hs hb;dsimp only;rw[aWi hs hb,oB,aXj hs hb,oB,beq_self_eq_true,bT,cFq,uH hz,oB,bT,cFq];(cases e:(M.hostBack h g b).2 with|false=>exact al|true=>obtain⟨th,t,e2⟩:=aUz hs hb e;have l:=cC hs th;have hg:((g.toNat:Nat):Int)=g:=(by have:=l.lo;omega);have bv:=bFt t;rw[hg]at bv;have bs:=aOv t;rw[e2];simp only[bT,cFq];rw[lF bs,oB,vZ bs,oB,cK.2 (aWw t),cTq,bv];simp only[cTq];rw[uK hb,oB,cTq,aBm hs bs (λk h3 hn=>(bBz t h3 (by omega)).trans (bAt hs th h3 hn)),oB];exact Ex.ret rfl)
theorem aPo{xs:List Int}(hx:∀x∈xs,0<=x/\x<=255):iK xs=some true:=by obtain⟨_,h,rfl⟩:=aQr hx;exact h
theorem aMe{T:Type}[Inhabited T]{p:T->Bool}{xs:List T}:((List.range xs.length).all λk=>p (xs.getD k default))=xs.all p:=by rw[Bool.eq_iff_iff,List.all_eq_true,List.all_eq_true];constructor;{intro h x hx;obtain⟨i,hi,e⟩:=List.getElem_of_mem hx;have:=h i (List.mem_range.2 hi);rwa[bB hi,e]at this};{intro h i hi;exact h _ (dN (List.mem_range.1 hi))}
theorem bBu{qs:List Int}(h:qs.length<=1048576):oK qs=some (qs.all (M.inR 0 7)):=by
 unfold oK
 have key:=cN (n:=qs.length) (step:=iL qs) (λk=>(k:Int)) (λk=>M.inR 0 7 (qs.getD k default)) (JO.go ()) (.out false) (λk hk _=>by
  simp only[iL,iT];rw[dT (p:=(k:Int)<_) (by omega),cTq,aE ⟨by omega,by omega⟩,aQe,oB,aD (by omega) (by omega)];cases M.inR 0 7 (qs.getD k default)<;>rfl) (λ_=>by
  simp only[iL];rw[dF (by omega),cFq])
 rw[aMe (p:=M.inR 0 7)]at key;show Option.bind (Option.bind (iter (iL qs) ((0:Nat):Int)) LO.val) _=_;rw[key];cases qs.all (M.inR 0 7)<;>rfl
theorem aZv{qs:List Int}{ps:List DSlot}{k:Nat}(h:k<qs.length):M.give ps (qs.take (k+1))=(M.give ps (qs.take k)).set (qs.getD k default).toNat M.nowhere:=by unfold M.give;rw[List.take_succ_eq_append_getElem h,List.foldl_append,bB h];rfl
section
variable {h : DHost} {g : Int} {x : DGuest}
theorem aSi(l:Live h g x){qs:List Int}{k:Nat}(hk:k<qs.length):(h.Guests.set g.toNat (M.giveG x (qs.take k))).set g.toNat ⟨(M.giveG x (qs.take k)).Live,(M.giveG x (qs.take k)).C,(M.giveG x (qs.take k)).Pages.set (qs.getD k default).toNat ⟨-1,false,false⟩,(M.giveG x (qs.take k)).In,(M.giveG x (qs.take k)).Out⟩=h.Guests.set g.toNat (M.giveG x (qs.take (k+1))):=by rw[List.set_set];show h.Guests.set g.toNat (⟨x.Live,x.C,(M.give x.Pages (qs.take k)).set (qs.getD k default).toNat M.nowhere,x.In,x.Out⟩:DGuest)=h.Guests.set g.toNat (⟨x.Live,x.C,M.give x.Pages (qs.take (k+1)),x.In,x.Out⟩:DGuest);rw[aZv hk]
theorem aMf(l:Live h g x):h.Guests.set g.toNat (M.giveG x (([]:List Int).take 0))=h.Guests:=by have e:M.giveG x (([]:List Int).take 0)=x:=rfl;rw[e,<-l.at_];exact pN
end
theorem aYk{h:DHost}{g:Int}{qs:List Int}(hs:SmallH h)(hq:qs.length<=1048576):mV h g qs=some (M.hostGive h g qs):=by
 unfold mV M.hostGive;rw[vB hs,oB];cases ht:M.there h g with
 |false=>rfl
 |true=>
  have l:=cC hs ht;have hk:=l.ok;have h3:=hk.three;have:=l.lo;have:=l.hi;have hp:=l.pages;rw[bT,cFq,bBu hq,oB,Bool.true_and];cases ho:qs.all (M.inR 0 7)with
  |false=>rfl
  |true=>
   rw[bT,cFq,aBu hs hk,oB]
   have key:=cN (n:=qs.length) (step:=gD g qs) (λk=>(h.Guests.set g.toNat (M.giveG (h.Guests.getD g.toNat default) (qs.take k)),(k:Int))) (λ_=>true) (JO.go (h.Guests.set g.toNat (M.giveG (h.Guests.getD g.toNat default) qs))) (JO.go (h.Guests.set g.toNat (M.giveG (h.Guests.getD g.toNat default) qs))) (λk hk2 _=>by
    have e1:(h.Guests.set g.toNat (M.giveG (h.Guests.getD g.toNat default) (qs.take k))).getD g.toNat default=M.giveG (h.Guests.getD g.toNat default) (qs.take k):=nS (by omega);have hl:(M.giveG (h.Guests.getD g.toNat default) (qs.take k)).Pages.length=8:=give_len.trans hp;have hr:=M.inR_iff.1 (List.all_eq_true.1 ho _ (dN hk2));simp only[gD,iT,e1];rw[dT (p:=(k:Int)<_) (by omega),cTq,aE ⟨by omega,by omega⟩,aE ⟨by omega,by rw[lS];omega⟩,aE ⟨by omega,by omega⟩,aD (by omega) (by omega),cTq];exact congrArg (λz=>some (LO.next (z,(k:Int)+1))) (aSi l hk2)) (λ_=>by
    simp only[gD];rw[dF (by omega),cFq,List.take_length])
   rw[Bool.cond_self]at key;have e0:h.Guests.set g.toNat (M.giveG (h.Guests.getD g.toNat default) (qs.take 0))=h.Guests:=aMf l;rw[e0]at key;show Option.bind (Option.bind (iter (gD g qs) (h.Guests,((0:Nat):Int))) LO.val) _=_;rw[key];rfl
theorem aYq{h:DHost}{g:Int}{qs:List Int}(hs:SmallH h)(hq:qs.length<=1048576):mW h g qs=some (M.hostGive h g qs):=by
 unfold mW M.hostGive;rw[aEa hs,oB];cases ht:M.there h g with
 |false=>rfl
 |true=>
  have l:=cC hs ht;have hk:=l.ok;have h3:=hk.three;have:=l.lo;have:=l.hi;have hp:=l.pages;rw[bT,cFq,aKh hs hk.all,oB,Bool.true_and]
  have key:=cN (n:=qs.length) (step:=gG g qs) (λk=>(h.Guests.set g.toNat (M.giveG (h.Guests.getD g.toNat default) (qs.take k)),(k:Int))) (λk=>M.inR 0 7 (qs.getD k default)) (JO.go (h.Guests.set g.toNat (M.giveG (h.Guests.getD g.toNat default) qs))) (.out (⟨[],[]⟩,false)) (λk hk2 _=>by
   have e1:(h.Guests.set g.toNat (M.giveG (h.Guests.getD g.toNat default) (qs.take k))).getD g.toNat default=M.giveG (h.Guests.getD g.toNat default) (qs.take k):=nS (by omega);have hl:(M.giveG (h.Guests.getD g.toNat default) (qs.take k)).Pages.length=8:=give_len.trans hp;simp only[gG,iT,e1];rw[dT (p:=(k:Int)<_) (by omega),cTq,aE ⟨by omega,by omega⟩,tZ,oB];cases hr:M.inR 0 7 (qs.getD k default)with
   |false=>rfl
   |true=>have hr:=M.inR_iff.1 hr;rw[bT,cFq,aE ⟨by omega,by rw[lS];omega⟩,aE ⟨by omega,by omega⟩,aE ⟨by omega,by omega⟩,aD (by omega) (by omega),cTq];exact congrArg (λz=>some (LO.next (z,(k:Int)+1))) (aSi l hk2)) (λ_=>by
   simp only[gG];rw[dF (by omega),cFq,List.take_length])
  rw[aMe (p:=M.inR 0 7)]at key;have e0:h.Guests.set g.toNat (M.giveG (h.Guests.getD g.toNat default) (qs.take 0))=h.Guests:=aMf l;rw[e0]at key;show Option.bind (Option.bind (iter (gG g qs) (h.Guests,((0:Nat):Int))) LO.val) _=_;rw[key];cases qs.all (M.inR 0 7)<;>rfl
theorem aYm{xs:List Int}{n:Int}(hl:xs.length<=1048576):∃b,pJ xs n=some b/\(b=true↔n∈xs):=by
 unfold pJ
 have key:=aMq (n:=xs.length) (step:=lJ xs n) (λk=>k) (λi=>!decide (xs.getD i default=n)) (JO.go ()) (.out true) (λk hk=>by
  simp only[lJ,iT];rw[dT (p:=(k:Int)<_) (by omega),cTq,aE ⟨by omega,by omega⟩,aD (by omega) (by omega)];cases decide (xs.getD k default=n)<;>rfl) (by
  simp only[lJ];rw[dF (by omega),cFq])
 have hiff:(List.range xs.length).all (λi=>!decide (xs.getD i default=n))=true↔n∉xs:=(by rw[List.all_eq_true];constructor;{intro h hm;obtain⟨i,hi,e⟩:=List.getElem_of_mem hm;have:=h i (List.mem_range.2 hi);rw[bB hi,e,dT rfl]at this;cases this};{intro h i hi;rw[dF (λe=>h (by rw[<-e];exact dN (List.mem_range.1 hi)))];rfl});rw[key];cases e:(List.range xs.length).all (λi=>!decide (xs.getD i default=n))with
 |true=>exact⟨false,rfl,by simp only[Bool.false_eq_true,false_iff];exact hiff.1 e⟩
 |false=>refine⟨true,rfl,by simp only[true_iff];exact Classical.byContradiction λhn=>by rw[hiff.2 hn]at e;cases e⟩
theorem aNc{m:Int}(hm:m<=900000)(h0:0<=m)(s:List Int×Int×List Int×Int)(hs:0<=s.2.2.2/\s.2.2.2<=3/\Rdr (m+2*(3-s.2.2.2)) ⟨s.1,s.2.1⟩/\(s.2.2.1.length:Int)+s.2.2.2<=3):
 Ex (kJ s) (λo=>(∃s',o= .next s'/\(0<=s'.2.2.2/\s'.2.2.2<=3/\Rdr (m+2*(3-s'.2.2.2)) ⟨s'.1,s'.2.1⟩/\(s'.2.2.1.length:Int)+s'.2.2.2<=3)/\s'.2.2.2.toNat<s.2.2.2.toNat)\/∃t,o= .ret (.go t)/\(Rdr (m+6) ⟨t.1,t.2.1⟩/\t.2.2.length<=3)):=by
 obtain⟨b,p,l,k⟩:=s;obtain⟨k0,k1,R,hl⟩:=hs;simp only at k0 k1 R hl;unfold kJ;refine Ex.cond (λhk=>?_) λhk=>?_
 · have hk:0<k:=of_decide_eq_true hk
   refine Ex.bind (aL R (by omega) (by omega)) λv7 ⟨R1,a1,b1⟩=>?_;refine Ex.bind (aL R1 (by omega) (by omega)) λv8 ⟨R2,a2,b2⟩=>?_;refine Ex.grd ⟨by simp only[List.length_cons,List.length_nil];omega,by simp only[List.length_cons,List.length_nil];omega⟩ (Ex.ret (.inl ⟨_,rfl,⟨?_,?_,?_,?_⟩,?_⟩));all_goals simp only[aD (z:=k-1) (by omega) (by omega),List.length_append,List.length_cons,List.length_nil]
   {omega};{omega};{exact R2.up (by omega)};{omega};{omega}
 {have hk:¬0<k:=of_decide_eq_false hk;exact Ex.ret (.inr ⟨_,rfl,R.up (by omega),by show l.length<=3;omega⟩)}
theorem aXh{xs:List Int}(hx:∀x∈xs,0<=x/\x<=255):Ex (jJ xs) (λv=>SmallH v.1/\v.2.2.length<=3):=by unfold jJ;refine Ex.bind (aQv hx) λr R=>?_;refine Ex.bind (bAe R (by omega) (by omega)) λv2 ⟨R2,hs⟩=>?_;refine Ex.join (P:=λs:List Int×Int×List Int=>Rdr 13000 ⟨s.1,s.2.1⟩/\s.2.2.length<=3) ?_ λs ⟨R3,hl⟩=>?_;{refine Ex.bind (aL R2 (by omega) (by omega)) λv5 ⟨R5,a5,b5⟩=>?_;exact Ex.loopv (λs:List Int×Int×List Int×Int=>0<=s.2.2.2/\s.2.2.2<=3/\Rdr (12500+2*(3-s.2.2.2)) ⟨s.1,s.2.1⟩/\(s.2.2.1.length:Int)+s.2.2.2<=3) (λs=>s.2.2.2.toNat) (λt:List Int×Int×List Int=>Rdr 13000 ⟨t.1,t.2.1⟩/\t.2.2.length<=3) ⟨a5,by show v5.2<=3;omega,R5.up (by simp only;omega),by simp only[List.length_nil];omega⟩ (λs hs=>(aNc (m:=12500) (by omega) (by omega) s hs).imp λo h=>⟨h.1,h.2.imp id λ⟨t,h1,h2,h3⟩=>⟨t,h1,h2.up (by omega),h3⟩⟩)};{unfold pF;exact Ex.bind (bDh R3 (by omega)) λv4 _=>Ex.ret ⟨hs,hl⟩}
theorem bHl{h:DHost}{g:Int}{qs:List Int}(e:(M.hostGive h g qs).2=true):M.there h g=true/\qs.all (M.inR 0 7)=true/\M.hostGive h g qs=(⟨h.Words,h.Guests.set g.toNat (M.giveG (h.Guests.getD g.toNat default) qs)⟩,true):=by unfold M.hostGive at e ⊢;(cases hc:(M.there h g&&qs.all (M.inR 0 7))with|false=>rw[hc]at e;cases e|true=>rw[bA]at hc;exact⟨hc.1,hc.2,rfl⟩)
theorem aQm{xs:List Int}(hx:∀x∈xs,0<=x/\x<=255):Ex (iE xs) (λb=>b=true):=by
 have al:Ex (Option.bind eV λv=>some v) (λb=>b=true):=Ex.bind (aKr (Q:=λb=>b=true) rfl) λb hb=>Ex.ret hb;unfold iE;refine Ex.cond (λ_=>Ex.ret rfl) λ_=>?_;refine Ex.bind (aXh hx) λv ⟨hs,hl⟩=>?_;obtain⟨h,g,qs⟩:=v;have hs:SmallH h:=hs;have hl:qs.length<=3:=hl;have hz:=aLh (g:=g) (qs:=qs) hs;dsimp only;rw[aYk hs (by omega),oB,aYq hs (by omega),oB,beq_self_eq_true,bT,cFq,uH hz,oB,bT,cFq];cases e:(M.hostGive h g qs).2 with
 |false=>exact al
 |true=>
  obtain⟨th,hq,e2⟩:=bHl e;have l:=cC hs th;have l2:=aZj hs l (qs:=qs);have gs:=aAw hs l (qs:=qs);have fr:=aZc l (qs:=qs);rw[e2];simp only[bT,cFq];rw[lF hs,oB,lF gs,oB,rV l,rV l2];simp only[jR]
  have key:=cN (n:=64) (step:=gW (h,g,qs) (⟨(h.Guests.getD g.toNat default).C,M.mem h.Words (h.Guests.getD g.toNat default).Pages,(h.Guests.getD g.toNat default).In,(h.Guests.getD g.toNat default).Out⟩,true) (⟨(M.giveG (h.Guests.getD g.toNat default) qs).C,M.mem h.Words (M.giveG (h.Guests.getD g.toNat default) qs).Pages,(M.giveG (h.Guests.getD g.toNat default) qs).In,(M.giveG (h.Guests.getD g.toNat default) qs).Out⟩,true)) (λk=>(k:Int)) (λ_=>true) (JO.go ()) (JO.go ()) (λk hk _=>by
   have gm:=bEa l hq (b:=k) hk;obtain⟨p,p1,p2⟩:=aYm (xs:=qs) (n:=((k/8:Nat):Int)) (by omega);have ed:w64 (Int.tdiv (k:Int) 8)=((k/8:Nat):Int):=(by rw[show(8:Int)=((8:Nat):Int)from rfl,<-Int.ofNat_tdiv];exact aD (by omega) (by omega));simp only[gW,jR,iT,ed,p1,gm,oB];rw[dT (p:=(k:Int)<_) (by omega),cTq];cases p with
   |true=>rw[cTq,aE ⟨by omega,by omega⟩,if_pos (p2.1 rfl)];simp only[decide_true,bT,cFq,oB,JO.run,kQ,cTq];rw[aD (by omega) (by omega)];rfl
   |false=>rw[cFq,aE ⟨by omega,by omega⟩,aE ⟨by omega,by omega⟩,if_neg (λc=>by have:=p2.2 c;cases this)];simp only[decide_true,bT,cFq,oB,JO.run,kQ,cTq];rw[aD (by omega) (by omega)];rfl) (λ_=>by
   simp only[gW,jR];rfl)
  rw[Bool.cond_self]at key;rw[dT (p:=(((64:Nat):Nat):Int)=64) rfl,bT,cFq,decide_true,bT,cFq];rw[show(0:Int)=((0:Nat):Int)from rfl,key];simp only[oB,LO.val,JO.run,rC];rw[vZ gs,oB,sL l,cTq,aBm hs gs (λk h3 hn=>aZi l h3 hn),oB,cTq,vP gs,oB,vP hs,oB,dT (by omega)];exact Ex.ret rfl
theorem aQa{xs:List Int}(hx:∀x∈xs,0<=x/\x<=255):iE xs=some true:=by obtain⟨_,h,rfl⟩:=aQm hx;exact h
end Go.Proofs.Ytobbmlnagjhofaa
