/- The typed machine. No program is named here. -/
import Derived.Test.YtcgggihjcelmhaaGreatD9
namespace Go.Proofs.YtcgggihjcelmhaaGreat
open Option renaming bind → x4, some → w7, isSome_iff_exists → y3
open Bool renaming and_eq_true → x5, not_eq_true' → u0, or_eq_true → r9
open List renaming getD_eq_getElem?_getD → x6, replicate → j0, all_eq_true → w5, all_cons → y4, length_append → y5, length_cons → y7, getElem?_eq_getElem → y9, mem_singleton → u9, getElem?_append_right → d9, getElem?_append_left → e7, mem_cons → g8, length_replicate → l6, length_nil → l7, map_cons → m5, mem_cons_of_mem → m8, take → o5, mem_append → p7, getD_cons_succ → r7, append_nil → r8, length_set → t7, getElem?_eq_none → qQH, getElem?_set_self → qXH
open Nat renaming le_refl → k9, eq_of_beq_eq_true → w6, lt_succ_self → y8, beq → f9, le_succ → l9, add_assoc → m4, add_zero → qZU
set_option linter.all false
open Go.RowKit
section
variable {τ : TS2} {L n n2 n' m : Nat} {E E' : TE τ.toTS} {H H' : TH τ.toTS} {ρ : Nat → Option Nat} {env env' : List AV} {Hp Hp' : Heap}
theorem aYv{a:JL}{x:a.T τ.toTS}{r:Nat}(hr:r<n):lkH (cK a x H n).2.1 r=lkH H r:=by
 (cases a with|i k=>rfl|b=>rfl|rb c=>rfl|ro c=>simp only[cK];rw[aM,if_neg (by omega)])
theorem bXz{a:JL}{x:a.T τ.toTS}:n<=(cK a x H n).2.2:=by cases a<;>simp only[cK]<;>omega
theorem aYg{p:Pl}{v:TV τ.toTS}{r:Nat}(h:(lkH (rY L p v E H).2 r).isSome=true):(lkH H r).isSome=true:=by
 (cases p with|s i=>exact h|c q o=>simp only[rY]at h;split at h;{rename_i e vs ts hq;simp only[aM]at h;split at h;{rename_i e;subst e;rw[hq];rfl};{exact h}};{exact h})
theorem aXu:∀(l:List (Pl×JL)) (x:JT τ.toTS (l.map Prod.snd)) {E:TE τ.toTS} {H:TH τ.toTS} {n r:Nat},r<n->(lkH (rH L l x E H n).2.1 r).isSome=true->(lkH H r).isSome=true
 |[],_,E,H,n,r,hr,h=>h
 |[(p,a)],x,E,H,n,r,hr,h=>by have this:(lkH (cK a x H n).2.1 r).isSome=true:=aYg (L:=L) (p:=p) (v:=(cK a x H n).1) (E:=E) h;rwa[aYv hr]at this
 |(p,a)::b::l,x,E,H,n,r,hr,h=>by have h1:(lkH (rY L p (cK a x.1 H n).1 E (cK a x.1 H n).2.1).2 r).isSome=true:=aXu (b::l) x.2 (E:=(rY L p (cK a x.1 H n).1 E (cK a x.1 H n).2.1).1) (Nat.lt_of_lt_of_le hr bXz) h;have this:(lkH (cK a x.1 H n).2.1 r).isSome=true:=aYg (L:=L) (p:=p) (v:=(cK a x.1 H n).1) (E:=E) h1;rwa[aYv hr]at this
theorem Sm.start{p:Tm}(hk:p.okB E H E' H'=true)(he:EOk τ.toTS1 L E H n env)(hh:HtOk τ.toTS1 H n Hp)(he':EOk τ.toTS1 L E' H' n' env')(fe:FxE E E')(fh:FxH H H')(hn:n<=n2)(hρ:∀i,i<n->ρ i=some i):
 Sm τ ρ n2 p.offs ⟨xA L E p.ke,E.q⟩ ⟨tH H (p.kh++p.mh),H.q⟩ env' H':=by
 simp only[Tm.okB,x5,w5]at hk;obtain⟨⟨⟨⟨q1,q2⟩,k1⟩,k2⟩,k3⟩:=hk;have lt:∀r t,lkH H r=some t->r<n:=λr t h=>Nat.lt_of_not_le λhc=>by rw[hh.low r hc]at h;cases h
 have keep:∀r,r∈p.kh->lkH H' r=lkH H r:=λr hr=>by obtain⟨⟨a,b⟩,_⟩:=k2 r hr;have a:=w6 a;have b:0<tmH H r:=(by simpa[Nat.blt_eq]using b);exact(fh.same r (by omega) (by rw[a];exact hh.tm r)).1
 refine⟨λi=>?_,λr c xs hr=>?_,λr t hr=>?_,λr e vs ts hr=>?_⟩;{rcases aMx (L:=L) (E:=E) p.ke i with h|⟨h,h2,h3⟩;{left;simp only[lkE,h]};{have e1:lkE (⟨xA L E p.ke,E.q⟩:TE τ.toTS) i=lkE E i:=(by simp only[lkE]at h ⊢;rw[h]);rw[e1];obtain⟨a,b⟩:=k1 i h3;have a:=w6 a;have b:0<tmE E i:=(by simpa[Nat.blt_eq]using b);have e2:=(fe.same i (by omega) (by rw[a];exact he.tm i)).1;have e3:=he'.env i;rw[e2]at e3;refine e3.imp id λe3=>?_;rw[e3];exact Gd.ren hn hρ (he.good i)}};{rcases aCd (H:=H) (p.kh++p.mh) r with h|⟨h,h3⟩;{simp only[lkH,h]at hr;cases hr};{have e1:lkH (⟨tH H (p.kh++p.mh),H.q⟩:TH τ.toTS) r=lkH H r:=(by simp only[lkH]at h ⊢;rw[h]);rw[e1]at hr;have hrn:=lt r _ hr;rcases p7.1 h3 with h4|h4;{exact⟨by omega,.inr ⟨r,hρ r hrn,by rw[keep r h4];exact hr⟩⟩};{have:=k3 r h4;rw[hr]at this;simp only[aZq]at this;cases this}}};{rcases aCd (H:=H) (p.kh++p.mh) r with h|⟨h,h3⟩;{simp only[lkH,h]at hr;cases hr};{have e1:lkH (⟨tH H (p.kh++p.mh),H.q⟩:TH τ.toTS) r=lkH H r:=(by simp only[lkH]at h ⊢;rw[h]);rw[e1]at hr;rcases p7.1 h3 with h4|h4;{have:=(k2 r h4).2;rw[hr]at this;exact this};{have:=k3 r h4;rw[hr]at this;unfold aZq at this;split at this;{rename_i g1 g2;cases g1;rfl};{cases this}}}};{rcases aCd (H:=H) (p.kh++p.mh) r with h|⟨h,h3⟩;{simp only[lkH,h]at hr;cases hr};{have e1:lkH (⟨tH H (p.kh++p.mh),H.q⟩:TH τ.toTS) r=lkH H r:=(by simp only[lkH]at h ⊢;rw[h]);rw[e1]at hr;have hrn:=lt r _ hr;have hc:=(hh.cells _ _ _ _ hr).1;rcases p7.1 h3 with h4|h4;{exact⟨by omega,hρ r hrn,vs,ts,by rw[keep r h4];exact hr,rfl,λo ho=> .inr (Gd.ren hn hρ hc.getD)⟩};{have hs:=k3 r h4;rw[hr]at hs;unfold aZq at hs;split at hs;{rename_i e1 vs1 ts1 e2 vs2 ts2 g1 g2;cases g1;simp only[x5,w5,List.mem_range,r9,List.any_eq_true]at hs;obtain⟨⟨s1,s2⟩,s3⟩:=hs;have s1:=of_decide_eq_true s1;have s2:=w6 s2;subst s1;refine⟨by omega,hρ r hrn,vs2,ts2,g2,s2,λo ho=>?_⟩;rcases s3 o ho with⟨q,hq,u1,u2⟩|⟨⟨u1,u2⟩,u3⟩;{left;have u1:=w6 u1;have u2:=w6 u2;obtain⟨a,b⟩:=q;simp only at u1 u2;subst u1;subst u2;exact hq};{right;have u1:=w6 u1;have u2:0<ts.getD o 0:=(by simpa[Nat.blt_eq]using u2);have u3:ts.getD o 0<H.q:=(by simpa[Nat.blt_eq]using u3);obtain⟨vs0,ts0,w1,w2,w3,w4⟩:=fh.cell r _ vs2 ts2 o g2 (by omega) (by omega);rw[hr]at w1;cases w1;rw[<-w3];exact Gd.ren hn hρ hc.getD}};{cases hs}}}}
theorem cFd{p:Tm}{x:JT τ.toTS (p.lv.map Prod.snd)}(h:pk p E H E' H'=some x)(he:EOk τ.toTS1 L E H n env)(hh:HtOk τ.toTS1 H n Hp)(he':EOk τ.toTS1 L E' H' n' env')(hh':HtOk τ.toTS1 H' n' Hp')(fe:FxE E E')(fh:FxH H H')(hm:m<=n):
 Ent m (cnE τ.toTS1 L (iP L p x E H n).1) (cnH τ.toTS1 (iP L p x E H n).2.1) (iP L p x E H n).2.2 env' Hp' n':=by
 unfold pk at h;obtain⟨hk,h⟩:=aF h;split at h
 · rename_i y rs hr
   obtain⟨hb,h⟩:=aF h;cases h;have hρ:∀i,i<n->rS n rs i=some i:=λi hi=>if_pos hi;have s0:=Sm.start (n2:=n+rs.length) (ρ:=rS n rs) hk he hh he' fe fh (by omega) hρ;obtain⟨s1,s2⟩:=Sm.leaves (n:=n) he' hh' p.lv x rs hr s0 (λk hk=>by simp only[rS];rw[if_neg (by omega)];congr 1;omega) (k9 _);show Ent m (cnE τ.toTS1 L (rH L p.lv x _ _ n).1) (cnH τ.toTS1 (rH L p.lv x _ _ n).2.1) (rH L p.lv x _ _ n).2.2 env' Hp' n';rw[s1];simp only[aGl,x5,w5]at hb;refine Sm.ent s2 hh' he'.len (λi hi=>hρ i (by omega)) (by omega) λr r' j h1 h2 e1 e2=>?_;have low:∀r,r<n->(lkH (rH L p.lv x ⟨xA L E p.ke,E.q⟩ ⟨tH H (p.kh++p.mh),H.q⟩ n).2.1 r).isSome=true->r∈p.kh++p.mh:=λr hr hs=>by have:=aXu p.lv x hr hs;rcases aCd (H:=H) (p.kh++p.mh) r with g|⟨_,g⟩;{simp only[lkH,g]at this;cases this};{exact g}
   have no:∀r,r∈p.kh++p.mh->∀i,rs.getD i none≠some r:=λr hr i hi=>by have hmem:some r∈rs:=(by rw[x6]at hi;(cases e:rs[i]? with|none=>rw[e]at hi;cases hi|some z=>rw[e]at hi;simp only[Option.getD_some]at hi;subst hi;exact List.mem_of_getElem? e));have:=hb.2 _ hmem;simp only[u0,List.any_eq_false]at this;exact this r hr (Nat.beq_refl r)
   simp only[rS]at e1 e2;split at e1<;>split at e2;{cases e1;cases e2;rfl};{rename_i a b;cases e1;exact absurd e2 (no _ (low _ a h1) _)};{rename_i a b;cases e2;exact absurd e1 (no _ (low _ b h2) _)};{have:=zU hb.1 (r:=r-n) (r':=r'-n) (j:=j) e1 e2;omega}
 {cases h}
theorem bHb{p:Tm}{x:JT τ.toTS (p.lv.map Prod.snd)}(hj:p.lv.all (λq=>jlB τ.toTS q.2)=true)(he:EOk τ.toTS1 L E H n env)(hh:HtOk τ.toTS1 H n Hp)(hq:0<E.q)(hr:0<H.q):
 TOk τ L (iP L p x E H n).1 (iP L p x E H n).2.1 (iP L p x E H n).2.2/\n<=(iP L p x E H n).2.2/\FxE E (iP L p x E H n).1/\FxH H (iP L p x E H n).2.1:=by
 obtain⟨a,b,c⟩:=TOk.sel (ke:=p.ke) (kh:=p.kh++p.mh) he hh hq hr;obtain⟨d1,d2,d3,d4⟩:=bJk p.lv x hj a;exact⟨d1,d2,b.trans d3,c.trans d4⟩
end
def aTw{τ:TS}(r:Nat)(v:TV τ):Bool:=!((bC v).any (f9 r))
def sR{τ:TS}(r:Nat):List Nat->TE τ->TE τ
 |[],E=>E
 |i::is,E=>match aTw r (lkE E i)with
  |true=>sR r is E
  |false=>sR r is (E.put i (.v .unk))
def isP:Pl->Nat->Nat->Bool
 | .s _,_,_=>false
 | .c q o,q',o'=>f9 q q'&&f9 o o'
def aKn{τ:TS}(r:Nat)(p:Pl)(H:TH τ):Bool:=(nR [] (H.l.map Prod.fst)).all λq=>match lkH H q with
 |some (.cells _ vs _)=>(List.range vs.length).all λo=>isP p q o||aTw r (vs.getD o (.v .unk))
 |some t=>knT t
 |none=>true
def bUo{τ:TS}(L:Nat)(p:Pl)(E:TE τ)(H:TH τ):Option (TE τ×TH τ):=match rX E H p with
 | .part r c 0 k=>match lkH H r with
  |some (.row c' xs)=>gb (aKn r p H&&(E.l.map Prod.fst).all (λi=>aTw r (lkE (sR r (E.l.map Prod.fst) E) i))) (match p with
   | .s i=>some ((sR r (E.l.map Prod.fst) E).put i (.ws r c k),H.put r (some (.row c' (o5 k xs))))
   | .c q o=>match lkH H q with
    |some (.cells e vs ts)=>gb (!(f9 q r)) (some (sR r (E.l.map Prod.fst) E,(H.put r (some (.row c' (o5 k xs)))).put q (some (.cells e (setTV vs o [.ws r c k]) (sS (H.q+1) ts o [TV.ws (τ:=τ) r c k])))))
    |_=>none)
  |_=>none
 |_=>some (E,H)
def aLq{τ:TS}(L:Nat):List (Pl×JL)->TE τ->TH τ->Option (TE τ×TH τ)
 |[],E,H=>some (E,H)
 |(p,.ro _)::l,E,H=>match bUo L p E H with
  |some (E2,H2)=>aLq L l E2 H2
  |none=>none
 |(_,.rb _)::l,E,H=>aLq L l E H
 |(_,.i _)::l,E,H=>aLq L l E H
 |(_,.b)::l,E,H=>aLq L l E H
def pkc{τ:TS}(L:Nat)(p:Tm)(E:TE τ)(H:TH τ)(E':TE τ)(H':TH τ):Option (JT τ (p.lv.map Prod.snd)):=match aLq L p.lv E' H' with
 |some (E2,H2)=>pk p E H E2 H2
 |none=>none
section
variable {τ : TS2} {L n n' m : Nat} {E E' : TE τ.toTS} {H H' : TH τ.toTS} {env env' : List AV} {Hp Hp' : Heap}
theorem Gd.on{R:Nat}(hx:∀i,i≠R->lkH H' i=lkH H i):∀{a:NV τ.toTS},R∉bC (.x a)->GdN H n a->GdN H' n a
 | .ow _ _,_,h=>h
 | .nws r c i o c2 k,hr,h=>by simp only[bC,u9]at hr;simp only[GdN,InAt]at h ⊢;rw[hx r (λe=>hr e.symm)];exact h
 | .nelt r c i o c2 j _,hr,h=>by simp only[bC,u9]at hr;simp only[GdN,InAt]at h ⊢;rw[hx r (λe=>hr e.symm)];exact h
 | .wc r _ _,hr,h=>h
mutual
theorem Gd.cut{R:Nat}(hx:∀i,i≠R->lkH H' i=lkH H i):∀{v:TV τ.toTS},R∉bC v->Gd H n v->Gd H' n v
 | .v x,_,h=>h
 | .ws r c k,hr,h=>by simp only[bC,u9]at hr;simp only[Gd,RowLen]at h ⊢;rw[hx r (λe=>hr e.symm)];exact h
 | .part r c i k,hr,h=>by simp only[bC,u9]at hr;simp only[Gd,RowLen]at h ⊢;rw[hx r (λe=>hr e.symm)];exact h
 | .elt r c i o,hr,h=>by simp only[bC,u9]at hr;simp only[Gd,RowLen]at h ⊢;rw[hx r (λe=>hr e.symm)];exact h
 | .bor _ _,_,h=>by simpa only[Gd]using h
 | .bel _ _ _ _,_,h=>by simpa only[Gd]using h
 | .agg vs,hr,h=>by simp only[bC]at hr;simp only[Gd]at h ⊢;exact Gds.cut hx hr h
 | .tup vs,hr,h=>by simp only[bC]at hr;simp only[Gd]at h ⊢;exact Gds.cut hx hr h
 | .bl _ _ vs,hr,h=>by simp only[bC]at hr;simp only[Gd]at h ⊢;exact Gds.cut hx hr h
 | .x a,hr,h=>by simp only[Gd]at h ⊢;exact Gd.on hx hr h
theorem Gds.cut{R:Nat}(hx:∀i,i≠R->lkH H' i=lkH H i):∀{vs:List (TV τ.toTS)},R∉iE vs->Gds H n vs->Gds H' n vs
 |[],_,_=>by simp only[Gds]
 |v::vs,hr,h=>by simp only[iE,p7,not_or]at hr;simp only[Gds]at h ⊢;exact⟨Gd.cut hx hr.1 h.1,Gds.cut hx hr.2 h.2⟩
end
theorem bEg{r:Nat}{v:TV τ.toTS}(h:aTw r v=true):r∉bC v:=λhm=>by simp only[aTw,u0,List.any_eq_false]at h;exact h r hm (by simp)
theorem aRs{r:Nat}:∀{is:List Nat} {E:TE τ.toTS},EOk τ.toTS1 L E H n env->EOk τ.toTS1 L (sR r is E) H n env/\FxE E (sR r is E)
 |[],E,h=>⟨h,FxE.refl⟩
 |i::is,E,h=>by simp only[sR];split;{exact aRs h};{obtain⟨a,b⟩:=aRs (is:=is) (h.note (t:=i) (v:= .v .unk) (.inl rfl) (by simp only[Gd,plainV]));exact⟨a,FxE.put.trans b⟩}
theorem bIn:∀{l:List (Nat×Nat×TV τ.toTS)} {i:Nat},i∉l.map Prod.fst->dU l i=(0,.v .unk)
 |[],_,_=>rfl
 |(k,x)::l,i,h=>by simp only[m5,g8,not_or]at h;simp only[dU];(cases hb:f9 k i with|true=>exact absurd (w6 hb).symm h.1|false=>exact bIn h.2)
theorem aNt:∀{l:List (Nat×Nat×Option (TR τ.toTS))} {i:Nat},i∉l.map Prod.fst->lF l i=(0,none)
 |[],_,_=>rfl
 |(k,x)::l,i,h=>by simp only[m5,g8,not_or]at h;simp only[lF];(cases hb:f9 k i with|true=>exact absurd (w6 hb).symm h.1|false=>exact aNt h.2)
theorem aIm{r:Nat}:∀{is:List Nat} {E:TE τ.toTS} {i:Nat},lkE (sR r is E) i=lkE E i\/lkE (sR r is E) i= .v .unk
 |[],E,i=> .inl rfl
 |j::is,E,i=>by simp only[sR];split;{exact aIm};{rcases aIm (r:=r) (is:=is) (E:=E.put j (.v .unk)) (i:=i)with h|h;{rw[h,nO];split;{exact .inr rfl};{exact .inl rfl}};{exact .inr h}}
theorem vE:∀{l acc:List Nat} {x:Nat},(x∈acc\/x∈l)->x∈nR acc l
 |[],acc,x,h=>h.elim id λh=>by cases h
 |y::l,acc,x,h=>by simp only[nR];split;{rename_i hy;simp only[List.any_eq_true]at hy;obtain⟨z,hz,e⟩:=hy;have e:=w6 e;subst e;refine vE (h.elim .inl λh=>?_);rcases g8.1 h with rfl|h;{exact .inl hz};{exact .inr h}};{refine vE (h.elim (λh=> .inl (m8 _ h)) λh=>?_);rcases g8.1 h with rfl|h;{exact .inl List.mem_cons_self};{exact .inr h}}
theorem bPc{r:Nat}{p:Pl}(h:aKn r p H=true):∀q e vs ts,lkH H q=some (.cells e vs ts)->∀o,o<vs.length->isP p q o=true\/r∉bC (vs.getD o (.v .unk)):=λq e vs ts hq o ho=>by have hm:q∈nR [] (H.l.map Prod.fst):=vE (.inr (Classical.byContradiction λhc=>by have:=aNt hc;simp only[lkH,this]at hq;cases hq));simp only[aKn,w5]at h;have:=h q hm;rw[hq]at this;simp only[w5,List.mem_range,r9]at this;exact(this o ho).imp id bEg
theorem aEk{r:Nat}{p:Pl}(h:aKn r p H=true):∀q t,lkH H q=some t->knT t=true:=λq t hq=>by have hm:q∈nR [] (H.l.map Prod.fst):=vE (.inr (Classical.byContradiction λhc=>by have:=aNt hc;simp only[lkH,this]at hq;cases hq));simp only[aKn,w5]at h;have:=h q hm;rw[hq]at this;cases t<;>first|rfl|(cases this;done)
theorem bXi{p:Pl}{E2:TE τ.toTS}{H2:TH τ.toTS}(h:bUo L p E H=some (E2,H2))(he:EOk τ.toTS1 L E H n env)(hh:HtOk τ.toTS1 H n Hp):∃Hp2,Ent m env Hp2 n env Hp n/\EOk τ.toTS1 L E2 H2 n env/\HtOk τ.toTS1 H2 n Hp2/\FxE E E2/\FxH H H2:=by
 unfold bUo at h;split at h
 · rename_i r c k hp
   split at h
   · rename_i c' xs hr
     obtain⟨hb,h1⟩:=aF h;clear h;simp only[x5,w5]at hb;obtain⟨b1,b2⟩:=hb;have gp:Gd H n (.part r c 0 k):=(by rw[<-hp];exact aWf he hh p);simp only[Gd]at gp;obtain⟨rn,mm,hm,hrl⟩:=gp;obtain⟨ec,el⟩:=hrl.row hr;subst ec;have hk:(o5 k xs).length=k:=(by rw[List.length_take];omega);have hx:∀i,i≠r->lkH (H.put r (some (.row c' (o5 k xs)))) i=lkH H i:=λi hi=>by rw[aM,if_neg (λe=>hi e.symm)]
     have gws:Gd (H.put r (some (.row c' (o5 k xs)))) n (.ws r c' k):=(by simp only[Gd];exact⟨rn,λp hp=>by rw[aM,if_pos rfl]at hp;rw[<-hk];simpa[qN]using hp.symm⟩);have gpt:Gd (H.put r (some (.row c' (o5 k xs)))) n (.part r c' 0 k):=by simp only[Gd];exact⟨rn,k,by omega,λp hp=>by rw[aM,if_pos rfl]at hp;rw[<-hk];simpa[qN]using hp.symm⟩
     have hA:HtOk τ.toTS1 (H.put r (some (.row c' (o5 k xs)))) n ((r,some ⟨τ.tid c',fl (τ.av c') (o5 k xs)⟩)::Hp):=by
      refine⟨λq=>?_,λq t hq=>?_,λq hq=>?_,wW hh.tm⟩;{rw[cQ,aM];split;{rfl};{exact hh.heap q}}
      · rw[aM]at hq
        split at hq;{cases hq;exact mV}
        · cases t with
          |row c2 ys=>exact mV
          |pst _ _ _ _ _=>exact absurd (aEk b1 q _ hq) (by simp[knT])
          |pap _ _ _ _=>exact absurd (aEk b1 q _ hq) (by simp[knT])
          |pmk _ _ _=>exact absurd (aEk b1 q _ hq) (by simp[knT])
          |hol _ _ _=>exact absurd (aEk b1 q _ hq) (by simp[knT])
          |cells e vs ts=>
          obtain⟨g1,g2⟩:=hh.cells q e vs ts hq;show Gds (H.put r (some (.row c' (o5 k xs)))) n vs/\ts.length=vs.length;refine⟨Gds.all.2 λv hv=>?_,g2⟩;obtain⟨o,ho,e2⟩:=List.getElem_of_mem hv;have ev:vs.getD o (.v .unk)=v:=(by rw[x6,y9 ho,e2];rfl);rcases bPc b1 q e vs ts hq o ho with hi|hi
          · cases p with
            |s i=>cases hi
            |c q1 o1=>simp only[isP,x5]at hi;have i1:=w6 hi.1;have i2:=w6 hi.2;subst i1 i2;simp only[rX,hq]at hp;rw[<-ev,hp];exact gpt
          {rw[ev]at hi;exact Gd.cut hx hi (Gds.all.1 g1 v hv)}
      {rw[aM,if_neg (by omega)];exact hh.low q hq}
     have hE:Ent m env ((r,some ⟨τ.tid c',fl (τ.av c') (o5 k xs)⟩)::Hp) n env Hp n:=Ent.cut λq t2 hq=>by
      rw[cQ]at hq;split at hq
      · rename_i e;subst e;cases hq
        exact⟨⟨τ.tid c',fl (τ.av c') xs⟩,k*τ.sz c',by rw[hh.heap,hr];rfl,rfl,by
         letI:=τ.inh c'
         exact(oI (bJ c')).symm⟩
      {exact⟨t2,t2.cs.length,hq,rfl,by rw[List.take_length]⟩}
     obtain⟨d1,d2⟩:=aRs (r:=r) (is:=E.l.map Prod.fst) he;have hfree:∀i,r∉bC (lkE (sR r (E.l.map Prod.fst) E) i):=λi=>by by_cases hi:i∈E.l.map Prod.fst;{exact bEg (b2 i hi)};{have h0:lkE E i= .v .unk:=(by simp only[lkE,bIn hi]);rcases aIm (r:=r) (is:=E.l.map Prod.fst) (E:=E) (i:=i)with h|h;{rw[h,h0];simp[bC]};{rw[h];simp[bC]}}
     have d3:EOk τ.toTS1 L (sR r (E.l.map Prod.fst) E) (H.put r (some (.row c' (o5 k xs)))) n env:=⟨d1.len,d1.env,λi=>Gd.cut hx (hfree i) (d1.good i),d1.tm⟩;have etr:tr τ.toTS1 (.ws r c' k)=tr τ.toTS1 (.part r c' 0 k):=(by simp only[tr,Nat.zero_mul]);cases p with
     |s i=>simp only[w7.injEq,Prod.mk.injEq]at h1;obtain⟨rfl,rfl⟩:=h1;have hv:env.getD i .unk=tr τ.toTS1 (.ws r c' k):=(by have:=he.env i;simp only[rX]at hp;rw[hp]at this;rw[etr];exact this.resolve_left λe=>by cases e);exact⟨_,hE,d3.note (.inr hv) gws,hA,d2.trans FxE.put,FxH.putRow⟩
     |c q o=>
      simp only[]at h1;split at h1
      · rename_i e vs ts hq
        obtain⟨hne,h2⟩:=aF h1;clear h1;simp only[w7.injEq,Prod.mk.injEq]at h2;obtain⟨rfl,rfl⟩:=h2;have hqr:q≠r:=λe=>by subst e;simp at hne
        have hq2:lkH (H.put r (some (.row c' (o5 k xs)))) q=some (.cells e vs ts):=(by rw[hx q hqr];exact hq);have hc:=hA.cells _ _ _ _ hq2;obtain⟨f1,f2⟩:=hA.cellsTurn (us2:=sS (H.q+1) ts o [TV.ws (τ:=τ.toTS) r c' k]) hq2 (Gds.setTV (o:=o) (us:=[.ws r c' k]) hc.1 (by simp only[Gds];exact⟨gws,trivial⟩)) (by rw[aEs,setTV_len];exact hc.2);have hget:vs.getD o (.v .unk)= .part r c' 0 k:=(by simp only[rX,hq]at hp;exact hp);have ho:o<vs.length:=Nat.lt_of_not_le λhc=>by rw[x6,qQH hc]at hget;cases hget
        have esame:trs τ.toTS1 (setTV vs o [.ws r c' k])=trs τ.toTS1 vs:=(by simp only[setTV];rw[aWu,etr,<-hget,<-pE ho];have ho2:o<(trs τ.toTS1 vs).length:=(by rw[cC];exact ho);rw[x6,y9 ho2];exact List.set_getElem_self ho2);refine⟨_,hE,d3.ext (k9 n) f2,f1.heapEq (λi=>?_),d2,FxH.putRow.trans (FxH.put λe' vs' ts' j q0 h0 h1=>?_)⟩
        · conv=>rhs;rw[cQ]
          split;{rename_i e;subst e;rw[hA.heap,hq2,esame];rfl};{rfl}
        {cases q0;rcases aHm (q:=H.q+1) (j:=j) (us:=[TV.ws (τ:=τ.toTS) r c' k]) (o:=o) hc.2 with k3|⟨k1,k2⟩;{have:(H.put r (some (.row c' (o5 k xs)))).q=H.q+1:=rfl;omega};{exact⟨vs,ts,hq2,setTV_len.symm,k2.symm,k1.symm⟩}}
      {cases h1}
   {cases h}
 {cases h;exact⟨Hp,Ent.refl,he,hh,FxE.refl,FxH.refl⟩}
theorem aGh:∀{l:List (Pl×JL)} {E:TE τ.toTS} {H:TH τ.toTS} {Hp:Heap} {E2:TE τ.toTS} {H2:TH τ.toTS},aLq L l E H=some (E2,H2)->EOk τ.toTS1 L E H n env->HtOk τ.toTS1 H n Hp->∃Hp2,Ent m env Hp2 n env Hp n/\EOk τ.toTS1 L E2 H2 n env/\HtOk τ.toTS1 H2 n Hp2/\FxE E E2/\FxH H H2
 |[],E,H,Hp,E2,H2,h,he,hh=>by simp only[aLq,w7.injEq,Prod.mk.injEq]at h;obtain⟨rfl,rfl⟩:=h;exact⟨Hp,Ent.refl,he,hh,FxE.refl,FxH.refl⟩
 |(p,.ro c)::l,E,H,Hp,E2,H2,h,he,hh=>by simp only[aLq]at h;split at h;{rename_i E3 H3 h3;obtain⟨Hp3,a1,a2,a3,a4,a5⟩:=bXi (m:=m) h3 he hh;obtain⟨Hp4,c1,c2,c3,c4,c5⟩:=aGh h a2 a3;exact⟨Hp4,c1.trans a1,c2,c3,a4.trans c4,a5.trans c5⟩};{cases h}
 |(p,.rb c)::l,E,H,Hp,E2,H2,h,he,hh=>aGh (l:=l) h he hh
 |(p,.i c)::l,E,H,Hp,E2,H2,h,he,hh=>aGh (l:=l) h he hh
 |(p,.b)::l,E,H,Hp,E2,H2,h,he,hh=>aGh (l:=l) h he hh
theorem bEx{p:Tm}{x:JT τ.toTS (p.lv.map Prod.snd)}(h:pkc L p E H E' H'=some x)(he:EOk τ.toTS1 L E H n env)(hh:HtOk τ.toTS1 H n Hp)(he':EOk τ.toTS1 L E' H' n' env')(hh':HtOk τ.toTS1 H' n' Hp')(fe:FxE E E')(fh:FxH H H')(hm:m<=n):
 Ent m (cnE τ.toTS1 L (iP L p x E H n).1) (cnH τ.toTS1 (iP L p x E H n).2.1) (iP L p x E H n).2.2 env' Hp' n':=by
 unfold pkc at h;split at h;{rename_i E2 H2 h2;obtain⟨Hp2,a1,a2,a3,a4,a5⟩:=aGh (m:=m) h2 he' hh';exact(cFd h he hh a2 a3 (fe.trans a4) (fh.trans a5) hm).trans a1};{cases h}
end
def tnE{τ:TS}(ht:TV τ->Bool)(f:Nat->TV τ->TV τ)(E:TE τ):TE τ:=⟨((nR [] (E.l.map Prod.fst)).filterMap λi=>match ht (lkE E i)with|true=>some (i,E.q,f i (lkE E i))|false=>none)++E.l,E.q+1⟩
def mpC{τ:TS}(ht:TV τ->Bool)(g:Nat->TV τ->TV τ):Nat->List (TV τ)->List (TV τ)
 |_,[]=>[]
 |o,v::vs=>(match ht v with|true=>g o v|false=>v)::mpC ht g (o+1) vs
def mpS{τ:TS}(ht:TV τ->Bool)(q:Nat):List (TV τ)->List Nat->List Nat
 |v::vs,t::ts=>(match ht v with|true=>q|false=>t)::mpS ht q vs ts
 |_,ts=>ts
def tnT{τ:TS}(ht:TV τ->Bool)(g:Nat->TV τ->TV τ)(q:Nat):Option (TR τ)->Option (TR τ)
 |some (.cells e vs ts)=>match vs.any ht with
  |true=>some (.cells e (mpC ht g 0 vs) (mpS ht q vs ts))
  |false=>some (.cells e vs ts)
 |t=>t
def tnK{τ:TS}(ht:TV τ->Bool):Option (TR τ)->Bool
 |some (.cells _ vs _)=>vs.any ht
 |_=>false
def tnH{τ:TS}(ht:TV τ->Bool)(g:Nat->Nat->TV τ->TV τ)(H:TH τ):TH τ:=⟨((nR [] (H.l.map Prod.fst)).filterMap λr=>match tnK ht (lkH H r)with
 |true=>some (r,H.q,tnT ht (g r) H.q (lkH H r))
 |false=>none)++H.l,H.q+1⟩
section
variable {τ : TS} {ht : TV τ → Bool} {f : Nat → TV τ → TV τ} {g : Nat → Nat → TV τ → TV τ} {g1 : Nat → TV τ → TV τ} {E : TE τ} {H : TH τ}
theorem aWp{l2:List (Nat×Nat×TV τ)}{i:Nat}:∀ks:List Nat,dU ((ks.filterMap λi=>match ht (lkE E i)with|true=>some (i,E.q,f i (lkE E i))|false=>none)++l2) i=if i∈ks/\ht (lkE E i)=true then(E.q,f i (lkE E i))else dU l2 i
 |[]=>by simp
 |k::ks=>by
  rw[List.filterMap_cons];cases e:ht (lkE E k)with
  |true=>
   simp only[List.cons_append,dU];cases hb:f9 k i with
   |true=>have:=w6 hb;subst this;simp[e]
   |false=>
    have hne:¬i=k:=λh=>by subst h;simp at hb
    simp only[];rw[aWp ks];simp[hne]
  |false=>simp only[];rw[aWp ks];by_cases h:i=k;{subst h;simp[e]};{simp[h]}
theorem aXi{l2:List (Nat×Nat×Option (TR τ))}{i:Nat}:∀ks:List Nat,lF ((ks.filterMap λr=>match tnK ht (lkH H r)with|true=>some (r,H.q,tnT ht (g r) H.q (lkH H r))|false=>none)++l2) i=if i∈ks/\tnK ht (lkH H i)=true then(H.q,tnT ht (g i) H.q (lkH H i))else lF l2 i
 |[]=>by simp
 |k::ks=>by
  rw[List.filterMap_cons];cases e:tnK ht (lkH H k)with
  |true=>
   simp only[List.cons_append,lF];cases hb:f9 k i with
   |true=>have:=w6 hb;subst this;simp[e]
   |false=>
    have hne:¬i=k:=λh=>by subst h;simp at hb
    simp only[];rw[aXi ks];simp[hne]
  |false=>simp only[];rw[aXi ks];by_cases h:i=k;{subst h;simp[e]};{simp[h]}
theorem bHf(h0:ht (.v .unk)=false){i:Nat}:dU (tnE ht f E).l i=if ht (lkE E i)=true then(E.q,f i (lkE E i))else dU E.l i:=by
 simp only[tnE];rw[aWp];by_cases h:ht (lkE E i)=true
 · have hk:i∈E.l.map Prod.fst:=Classical.byContradiction λhc=>by
    have:lkE E i= .v .unk:=(by simp only[lkE];exact congrArg Prod.snd (fndE_no' hc));rw[this,h0]at h;cases h
   rw[if_pos ⟨vE (.inr hk),h⟩,if_pos h]
 {rw[if_neg (λhc=>h hc.2),if_neg h]}
where
 fndE_no':∀{l:List (Nat×Nat×TV τ)} {i:Nat},i∉l.map Prod.fst->dU l i=(0,.v .unk)
  |[],_,_=>rfl
  |(k,x)::l,i,h=>by
   simp only[m5,g8,not_or]at h
   simp only[dU]
   cases hb:f9 k i with
   |true=>exact absurd (w6 hb).symm h.1
   |false=>exact fndE_no' h.2
theorem bIp{i:Nat}:lF (tnH ht g H).l i=if tnK ht (lkH H i)=true then(H.q,tnT ht (g i) H.q (lkH H i))else lF H.l i:=by
 simp only[tnH];rw[aXi];by_cases h:tnK ht (lkH H i)=true
 · have hk:i∈H.l.map Prod.fst:=Classical.byContradiction λhc=>by
    have:lkH H i=none:=(by simp only[lkH];exact congrArg Prod.snd (fndH_no' hc));rw[this]at h;cases h
   rw[if_pos ⟨vE (.inr hk),h⟩,if_pos h]
 {rw[if_neg (λhc=>h hc.2),if_neg h]}
where
 fndH_no':∀{l:List (Nat×Nat×Option (TR τ))} {i:Nat},i∉l.map Prod.fst->lF l i=(0,none)
  |[],_,_=>rfl
  |(k,x)::l,i,h=>by
   simp only[m5,g8,not_or]at h
   simp only[lF]
   cases hb:f9 k i with
   |true=>exact absurd (w6 hb).symm h.1
   |false=>exact fndH_no' h.2
theorem bDl(h0:ht (.v .unk)=false){i:Nat}:lkE (tnE ht f E) i=match ht (lkE E i)with|true=>f i (lkE E i)|false=>lkE E i:=by show(dU (tnE ht f E).l i).2=_;rw[bHf h0];by_cases h:ht (lkE E i)=true;{rw[if_pos h,h]};{rw[if_neg h];rw[Bool.not_eq_true]at h;rw[h];rfl}
theorem zP{i:Nat}:lkH (tnH ht g H) i=tnT ht (g i) H.q (lkH H i):=by
 show(lF (tnH ht g H).l i).2=_;rw[bIp];by_cases h:tnK ht (lkH H i)=true;{rw[if_pos h]}
 · rw[if_neg h]
   rw[Bool.not_eq_true]at h;show lkH H i=_;generalize lkH H i=t at h ⊢;cases t with
   |none=>rfl
   |some t=>cases t<;>first|rfl|(simp only[tnK]at h;simp only[tnT,h])
theorem bIi(h0:ht (.v .unk)=false){i:Nat}:tmE (tnE ht f E) i=E.q\/(tmE (tnE ht f E) i=tmE E i/\lkE (tnE ht f E) i=lkE E i):=by show(dU (tnE ht f E).l i).1=_\/((dU (tnE ht f E).l i).1=_/\(dU (tnE ht f E).l i).2=_);rw[bHf h0];by_cases h:ht (lkE E i)=true;{rw[if_pos h];exact .inl rfl};{rw[if_neg h];exact .inr ⟨rfl,rfl⟩}
theorem bHl{i:Nat}:tmH (tnH ht g H) i=H.q\/(tmH (tnH ht g H) i=tmH H i/\lkH (tnH ht g H) i=lkH H i):=by show(lF (tnH ht g H).l i).1=_\/((lF (tnH ht g H).l i).1=_/\(lF (tnH ht g H).l i).2=_);rw[bIp];by_cases h:tnK ht (lkH H i)=true;{rw[if_pos h];exact .inl rfl};{rw[if_neg h];exact .inr ⟨rfl,rfl⟩}
theorem aSw(h0:ht (.v .unk)=false):FxE E (tnE ht f E):=⟨l9 _,λi h1 h2=>by
 rcases bIi (f:=f) (E:=E) h0 (i:=i)with h|⟨a,b⟩;{omega}
 · exact⟨b,a⟩⟩
theorem bZy(h0:ht (.v .unk)=false)(h:∀i,tmE E i<E.q)(i:Nat):tmE (tnE ht f E) i<(tnE ht f E).q:=by show _<E.q+1;rcases bIi (f:=f) (E:=E) h0 (i:=i)with k|⟨a,_⟩;{omega};{rw[a];exact Nat.lt_succ_of_lt (h i)}
theorem aUh(h:∀i,tmH H i<H.q)(i:Nat):tmH (tnH ht g H) i<(tnH ht g H).q:=by show _<H.q+1;rcases bHl (ht:=ht) (g:=g) (H:=H) (i:=i)with k|⟨a,_⟩;{omega};{rw[a];exact Nat.lt_succ_of_lt (h i)}
theorem mpC_len:∀{vs:List (TV τ)} {o:Nat},(mpC ht g1 o vs).length=vs.length
 |[],_=>rfl
 |v::vs,o=>by simp only[mpC,y7,mpC_len]
theorem bIe{q:Nat}:∀{vs:List (TV τ)} {ts:List Nat},(mpS ht q vs ts).length=ts.length
 |[],_=>by simp[mpS]
 |v::vs,[]=>rfl
 |v::vs,t::ts=>by simp only[mpS,y7,bIe]
theorem aQa{j:Nat}:∀{vs:List (TV τ)} {o:Nat},j<vs.length->(mpC ht g1 o vs).getD j (.v .unk)=match ht (vs.getD j (.v .unk))with|true=>g1 (o+j) (vs.getD j (.v .unk))|false=>vs.getD j (.v .unk)
 |[],_,h=>absurd h (Nat.not_lt_zero _)
 |v::vs,o,h=>by(cases j with|zero=>simp only[mpC,List.getD_cons_zero,qZU]|succ j=>simp only[mpC,r7];rw[aQa (by simpa using h),show o+1+j=o+(j+1) by omega])
theorem bRb{q j:Nat}:∀{vs:List (TV τ)} {ts:List Nat} {o:Nat},(mpS ht q vs ts).getD j 0=q\/(mpS ht q vs ts).getD j 0=0\/((mpS ht q vs ts).getD j 0=ts.getD j 0/\(mpC ht g1 o vs).getD j (.v .unk)=vs.getD j (.v .unk))
 |[],ts,o=> .inr (.inr ⟨by simp[mpS],by simp[mpC]⟩)
 |v::vs,[],o=> .inr (.inl (by simp[mpS]))
 |v::vs,t::ts,o=>by(cases j with|zero=>(cases e:ht v with|true=>left;simp[mpS,e]|false=>right;right;simp[mpS,mpC,e])|succ j=>simp only[mpS,mpC,r7];exact bRb)
theorem tnH_fx:FxH H (tnH ht g H):=⟨l9 _,λi h1 h2=>by
 rcases bHl (ht:=ht) (g:=g) (H:=H) (i:=i)with h|⟨a,b⟩;{omega}
 · exact⟨b,a⟩,λr e vs ts o hl h1 h2=>by
 rw[zP]at hl;cases ht0:lkH H r with
 |none=>rw[ht0]at hl;cases hl
 |some t=>
  rw[ht0]at hl;cases t with
  |cells e0 vs0 ts0=>simp only[tnT]at hl;split at hl;{cases hl;rcases bRb (ht:=ht) (g1:=g r) (q:=H.q) (j:=o) (vs:=vs0) (ts:=ts0) (o:=0)with k|k|⟨k1,k2⟩;{omega};{omega};{exact⟨vs0,ts0,rfl,mpC_len.symm,k2.symm,k1.symm⟩}};{cases hl;exact⟨vs,ts,rfl,rfl,rfl,rfl⟩}
  |row _ _=>cases hl
  |pst _ _ _ _ _=>cases hl
  |pap _ _ _ _=>cases hl
  |pmk _ _ _=>cases hl
  |hol _ _ _=>cases hl⟩
end
structure Turn (τ : TS2) (Rel : AV → AV → Prop) (ht : TV τ.toTS → Bool) (f : Nat → TV τ.toTS → TV τ.toTS) (g : Nat → Nat → TV τ.toTS → TV τ.toTS) (E : TE τ.toTS) (H : TH τ.toTS) (n : Nat) (H' : TH τ.toTS) (n' : Nat) : Prop where
 same:∀x,Rel x x
 unk:∀x,Rel x .unk
 h0:ht (.v .unk)=false
 no:∀v,Gd H n v->ht v=false->Gd H' n' v
 ef:∀i,Gd H n (lkE E i)->ht (lkE E i)=true->Rel (tr τ.toTS1 (lkE E i)) (tr τ.toTS1 (f i (lkE E i)))/\Gd H' n' (f i (lkE E i))
 eg:∀r e vs ts o,lkH H r=some (.cells e vs ts)->o<vs.length->Gd H n (vs.getD o (.v .unk))->ht (vs.getD o (.v .unk))=true->Rel (tr τ.toTS1 (vs.getD o (.v .unk))) (tr τ.toTS1 (g r o (vs.getD o (.v .unk))))/\Gd H' n' (g r o (vs.getD o (.v .unk)))
section
variable {τ : TS2} {L n n' : Nat} {E : TE τ.toTS} {H H' : TH τ.toTS} {env : List AV} {Hp : Heap} {Rel : AV → AV → Prop} {ht : TV τ.toTS → Bool} {f : Nat → TV τ.toTS → TV τ.toTS} {g : Nat → Nat → TV τ.toTS → TV τ.toTS}
theorem cAf{v:TV τ.toTS}(h:tr τ.toTS1 v= .unk):v= .v .unk:=by cases v<;>simp only[tr]at h<;>first|(subst h;rfl)|(cases h;done)|(rename_i a;cases a<;>simp only[trN]at h<;>cases h)
theorem EOk.inL(he:EOk τ.toTS1 L E H n env):InL L E:=λi hi=>(he.env i).elim id λh=>by rw[x6,qQH (by rw[he.len];exact hi)]at h;exact cAf h.symm
theorem Turn.frame(T:Turn τ Rel ht f g E H n H' n')(he:EOk τ.toTS1 L E H n env):EOk τ.toTS1 L (tnE ht f E) H' n' (cnE τ.toTS1 L (tnE ht f E))/\∀t,t<env.length->Rel (env.getD t .unk) ((cnE τ.toTS1 L (tnE ht f E)).getD t .unk):=by refine⟨EOk.cn (λi hi=>?_) (λi=>?_) (bZy T.h0 he.tm),λt hl=>?_⟩;{rw[bDl T.h0,he.inL i hi,T.h0]};{rw[bDl T.h0];(cases e:ht (lkE E i)with|true=>exact(T.ef i (he.good i) e).2|false=>exact T.no _ (he.good i) e)};{rw[aQj (by rw[<-he.len];exact hl),bDl T.h0];(cases e:ht (lkE E t)with|true=>simp only[];rcases he.env t with h|h;{rw[h,T.h0]at e;cases e};{rw[h];exact(T.ef t (he.good t) e).1}|false=>simp only[];rcases he.env t with h|h;{rw[h];simp only[tr];exact T.unk _};{rw[h];exact T.same _})}
theorem Turn.root(T:Turn τ Rel ht f g E H n H' n')(hh:HtOk τ.toTS1 H n Hp){r:Nat}{t2:TR τ.toTS}(h:lkH (tnH ht g H) r=some t2):∃t,lkH H r=some t/\(trR τ.toTS1 t2).e=(trR τ.toTS1 t).e/\(trR τ.toTS1 t2).cs.length=(trR τ.toTS1 t).cs.length/\∀i,i<(trR τ.toTS1 t).cs.length->Rel ((trR τ.toTS1 t).cs.getD i .unk) ((trR τ.toTS1 t2).cs.getD i .unk):=by rw[zP]at h;(cases e:lkH H r with|none=>rw[e]at h;cases h|some t=>rw[e]at h;refine⟨t,rfl,?_⟩;(cases t with|cells e0 vs ts=>simp only[tnT]at h;split at h;{cases h;refine⟨rfl,by simp only[trR,cC,mpC_len],λi hi=>?_⟩;simp only[trR,cC]at hi ⊢;rw[pE hi,pE (by rw[mpC_len];exact hi),aQa hi];have hg:=(hh.cells _ _ _ _ e).1;(cases e1:ht (vs.getD i (.v .unk))with|true=>simp only[Nat.zero_add];exact(T.eg r _ _ _ i e hi hg.getD e1).1|false=>exact T.same _)};{cases h;exact⟨rfl,rfl,λi _=>T.same _⟩}|row c xs=>cases h;exact⟨rfl,rfl,λi _=>T.same _⟩|pst _ _ _ _ _=>cases h;exact⟨rfl,rfl,λi _=>T.same _⟩|pap _ _ _ _=>cases h;exact⟨rfl,rfl,λi _=>T.same _⟩|pmk _ _ _=>cases h;exact⟨rfl,rfl,λi _=>T.same _⟩|hol _ _ _=>cases h;exact⟨rfl,rfl,λi _=>T.same _⟩))
def wU{τ:TS}(ht:TV τ->Bool)(X:List Nat)(H:TH τ):Bool:=(nR [] (H.l.map Prod.fst)).all λr=>match lkH H r with
 |some t=>X.any (f9 r)||knT t||!((tvs t).any ht)
 |none=>true
theorem bWh{X:List Nat}(h:wU ht X H=true){r:Nat}{t:TR τ.toTS}(hr:lkH H r=some t)(hx:r∉X):knT t=true\/(tvs t).any ht=false:=by have hm:r∈nR [] (H.l.map Prod.fst):=vE (.inr (Classical.byContradiction λhc=>by have:=aNt hc;simp only[lkH,this]at hr;cases hr));simp only[wU,w5]at h;have:=h r hm;rw[hr]at this;simp only[r9,u0]at this;rcases this with(h1|h1)|h1;{rw[List.any_eq_true]at h1;obtain⟨y,hy,e⟩:=h1;rw[w6 e]at hx;exact absurd hy hx};{exact .inl h1};{exact .inr h1}
theorem Turn.heap(T:Turn τ Rel ht f g E H n H' n')(hh:HtOk τ.toTS1 H n Hp){X:List Nat}(hraw:wU ht X H=true)(hn:n<=n')(hlk:∀q,q∉X->lkH H' q=lkH (tnH ht g H) q)(hX:∀q,q∈X->∀t,lkH H' q=some t->q<n'/\Gds H' n' (tvs t)/\aDn τ.toTS1 t)(htm:∀r,tmH H' r<H'.q):HtOk τ.toTS1 H' n' (cnH τ.toTS1 H'):=by
 refine⟨dV,λq t hq=>?_,λq hq=>?_,htm⟩;{by_cases hx:q∈X;{exact(hX q hx t hq).2};{rw[hlk q hx,zP]at hq;(cases e:lkH H q with|none=>rw[e]at hq;cases hq|some t0=>rw[e]at hq;have h0:=hh.all q t0 e;have hr:=bWh hraw e hx;have keep:(tvs t0).any ht=false->Gds H' n' (tvs t0):=λha=>Gds.all.2 λv hv=>T.no v (Gds.all.1 h0.1 v hv) (by rw[List.any_eq_false]at ha;have:=ha v hv;cases e:ht v<;>simp_all);(cases t0 with|cells e0 vs ts=>simp only[tnT]at hq;split at hq;{cases hq;refine⟨Gds.all.2 λv hv=>?_,?_⟩;{simp only[tvs]at hv;obtain⟨j,hj,e2⟩:=List.getElem_of_mem hv;have hj2:j<vs.length:=(by rw[mpC_len]at hj;exact hj);have e3:(mpC ht (g q) 0 vs).getD j (.v .unk)=v:=(by rw[x6,y9 hj,e2];rfl);rw[aQa hj2]at e3;have hg:Gd H n (vs.getD j (.v .unk)):=Gds.getD h0.1;(cases e1:ht (vs.getD j (.v .unk))with|true=>rw[e1]at e3;simp only[Nat.zero_add]at e3;rw[<-e3];exact(T.eg q _ _ _ j e hj2 hg e1).2|false=>rw[e1]at e3;rw[<-e3];exact T.no _ hg e1)};{simp only[aDn];rw[bIe,mpC_len];exact h0.2}};{rename_i ha;cases hq;exact⟨keep ha,h0.2⟩}|row c xs=>cases hq;exact mV|pst _ _ _ _ _=>cases hq;exact⟨keep (hr.resolve_left (by simp[knT])),h0.2⟩|pap _ _ _ _=>cases hq;exact⟨keep (hr.resolve_left (by simp[knT])),h0.2⟩|pmk _ _ _=>cases hq;exact⟨keep (hr.resolve_left (by simp[knT])),h0.2⟩|hol _ _ _=>cases hq;exact⟨by simp only[tvs,Gds],h0.2⟩))}}
 · by_cases hx:q∈X
   · cases e:lkH H' q with
     |none=>rfl
     |some t=>have:=(hX q hx t e).1;omega
   {rw[hlk q hx,zP,hh.low q (by omega)];rfl}
theorem aUd{q:Nat}{g1:Nat->TV τ.toTS->TV τ.toTS}{a:Option (TR τ.toTS)}:Ex1 a (tnT ht g1 q a):=by
 cases a with
 |none=>exact Ex1.none
 |some t=>cases t<;>first|exact Ex1.refl|(simp only[tnT];split<;>exact Ex1.cells)
end
def nrm(H:Heap):Heap:=(fC H).map λr=>(r,H.get1 r)
theorem bEc{H:Heap}{i:Nat}:∀l:List Nat,Heap.get1 (l.map λr=>(r,H.get1 r)) i=if i∈l then H.get1 i else none
 |[]=>rfl
 |k::l=>by simp only[m5];rw[cQ,bEc l];by_cases e:k=i;{subst e;simp};{have:¬i=k:=λh=>e h.symm;simp[e,this]}
theorem aXx{i:Nat}:∀{H:Heap},i∉fC H->H.get1 i=none
 |[],_=>rfl
 |(k,t)::H,h=>by simp only[fC,m5,g8,not_or]at h;rw[cQ,if_neg (λe=>h.1 e.symm)];exact aXx h.2
theorem bEm{H:Heap}{i:Nat}:(nrm H).get1 i=H.get1 i:=by unfold nrm;rw[bEc];split;{rfl};{rename_i h;exact(aXx h).symm}
theorem HD.of{R n:Nat}{S:List (Nat×Nat)}{bad:List Nat}{H H2:Heap}(h:∀r t2,H2.get1 r=some t2->r≠R/\r∉bad/\∃t,H.get1 r=some t/\t2.e=t.e/\Rds R n S t.cs t2.cs):∀l:List Nat,HD R n S bad H (l.map λr=>(r,H2.get1 r))
 |[]=>trivial
 |r::l=>by simp only[m5];(cases e:H2.get1 r with|none=>exact HD.of h l|some t2=>exact⟨h r t2 e,HD.of h l⟩)
theorem HU.of{R j n:Nat}{H H2:Heap}(h:∀r t2,H2.get1 r=some t2->r≠R/\∃t,H.get1 r=some t/\t2.e=t.e/\Ufs R j n t.cs t2.cs):∀l:List Nat,HU R j n H (l.map λr=>(r,H2.get1 r))
 |[]=>trivial
 |r::l=>by simp only[m5];(cases e:H2.get1 r with|none=>exact HU.of h l|some t2=>exact⟨h r t2 e,HU.of h l⟩)
def aIu(τ:TS2)(L m:Nat)(E:TE τ.toTS)(H:TH τ.toTS)(n:Nat)(env:List AV)(Hp:Heap)(E':TE τ.toTS)(H':TH τ.toTS)(n':Nat):Prop:=∃env' Hp',Ent m env' Hp' n' env Hp n/\EOk τ.toTS1 L E' H' n' env'/\HtOk τ.toTS1 H' n' Hp'/\n<=n'/\FxE E E'/\FxH H H'
def frB{τ:TS}(Q:Nat)(v:TV τ):Bool:=(bC v).any (f9 Q)
def aIt(τ:TS1)(Q d:Nat)(zs:List (τ.T d))(E:TE τ.toTS)(H:TH τ.toTS):TE τ.toTS×TH τ.toTS:=(tnE (frB Q) (λ_=>fr1 Q d zs) E,(tnH (frB Q) (λ_ _=>fr1 Q d zs) H).put Q none)
def bTq(τ:TS1)(Q:Nat)(E:TE τ.toTS)(H:TH τ.toTS)(n:Nat):Option (TE τ.toTS×TH τ.toTS×Nat):=match lkH H Q with
 |some (.row c xs)=>match τ.el c with
  |true=>gb (wU (frB Q) [Q] H) (some ((aIt τ Q (τ.un c) (cast (congrArg List (τ.tu c)) xs) E H).1,(aIt τ Q (τ.un c) (cast (congrArg List (τ.tu c)) xs) E H).2,n))
  |false=>gb (τ.pl c&&wU (frB Q) [Q] H) (some ((aIt τ Q c xs E H).1,(aIt τ Q c xs E H).2,n))
 |_=>none
section
variable {τ : TS2} {L n n' m : Nat} {E E' : TE τ.toTS} {H H' : TH τ.toTS} {env : List AV} {Hp : Heap}
theorem bAs {Q c d:Nat} {xs:List (τ.T c)} {zs:List (τ.T d)} (hz:τ.sz d=τ.sz c) (hzn:zs.length=xs.length) (hp:τ.pl d=true) (hr:lkH H Q=some (.row c xs)) (hraw:wU (frB Q) [Q] H=true)
 (hent:∀{us us2:List AV} {H2:Heap},Hp.get1 Q=some ⟨τ.tid c,fl (τ.av c) xs⟩->Frs Q (fl (τ.av d) zs) us us2->(∀r t2,H2.get1 r=some t2->r≠Q/\∃t,Hp.get1 r=some t/\t2.e=t.e/\Frs Q (fl (τ.av d) zs) t.cs t2.cs)->Ent m us2 H2 n us Hp n)
 (he:EOk τ.toTS1 L E H n env) (hh:HtOk τ.toTS1 H n Hp):aIu τ L m E H n env Hp (aIt τ.toTS1 Q d zs E H).1 (aIt τ.toTS1 Q d zs E H).2 n:=by
 unfold aIt;have hQ:=hh.lt hr;obtain⟨_,kx⟩:=hh.kill hQ
 letI:=τ.inh c
 have x1:∀{g:Nat->Nat->TV τ.toTS->TV τ.toTS},Ext (H.put Q none) n ((tnH (frB Q) g H).put Q none):=λ{g} r _=>by rw[aM,aM];split;{exact Ex1.none};{rw[zP];exact aUd}
 generalize hg:(λ(_ _:Nat)=>fr1 Q d zs)=g;generalize hf:(λ(_:Nat)=>fr1 Q d zs)=f;have T:Turn τ (Fr Q (fl (τ.av d) zs)) (frB Q) f g E H n ((tnH (frB Q) g H).put Q none) n:=(by refine⟨λx=> .same x,λx=> .unk x,rfl,λv hv _=>Gd.ext (k9 n) (kx.trans (k9 n) x1) hv,λi hv _=>?_,λr e vs ts o _ _ hv _=>?_⟩;{obtain⟨a,b⟩:=bLc hz hzn hp hr kx hv;subst hf;exact⟨a,Gd.ext (k9 n) x1 b⟩};{obtain⟨a,b⟩:=bLc hz hzn hp hr kx hv;subst hg;exact⟨a,Gd.ext (k9 n) x1 b⟩});obtain⟨e1,e2⟩:=T.frame he;have hk:HtOk τ.toTS1 ((tnH (frB Q) g H).put Q none) n (cnH τ.toTS1 ((tnH (frB Q) g H).put Q none)):=T.heap hh hraw (k9 n) (λq hq=>by rw[aM,if_neg (λe=>hq (by rw[e];exact u9.2 rfl))]) (λq hq t ht=>by rw[u9.1 hq,aM,if_pos rfl]at ht;cases ht) (wW (aUh hh.tm));refine⟨_,_,?_,e1,hk,k9 n,aSw rfl,tnH_fx.trans kill_fx⟩;have hR:Hp.get1 Q=some ⟨τ.tid c,fl (τ.av c) xs⟩:=(by rw[hh.heap,hr];rfl);refine hent hR (Frs.of_get (by rw[wB,he.len]) e2) λr t2 hr2=>?_;rw[dV,aM]at hr2;split at hr2;{cases hr2};{rename_i hne;(cases e3:lkH (tnH (frB Q) g H) r with|none=>rw[e3]at hr2;cases hr2|some t2'=>rw[e3]at hr2;cases hr2;obtain⟨t,a1,a2,a3,a4⟩:=T.root hh e3;exact⟨λe=>hne e.symm,trR τ.toTS1 t,by rw[hh.heap,a1];rfl,a2,Frs.of_get a3 a4⟩)}
theorem bXv{Q:Nat}(h:bTq τ.toTS1 Q E H n=some (E',H',n'))(he:EOk τ.toTS1 L E H n env)(hh:HtOk τ.toTS1 H n Hp):aIu τ L m E H n env Hp E' H' n':=by
 unfold bTq at h;split at h
 · rename_i c xs hr
   letI:=τ.inh c
   split at h;{rename_i hl;obtain⟨hraw,h1⟩:=aF h;simp only[w7.injEq,Prod.mk.injEq]at h1;obtain⟨rfl,rfl,rfl⟩:=h1;have hm:(fl (τ.av c) xs).map AV.thaw=fl (τ.av (τ.un c)) (cast (congrArg List (τ.tu c)) xs):=(by rw[bAl (λx=>τ.thw c x hl)];exact((aFq rfl xs).1).symm);exact bAs (bWn hl) (aFq rfl xs).2 (τ.plu c hl) hr hraw (λhR h1 h2=>Ent.freezeT hR (bKv λx=>τ.shl c x hl) (by rw[hm];exact h1) (by rw[hm];exact h2)) he hh};{obtain⟨hb,h1⟩:=aF h;rw[x5]at hb;simp only[w7.injEq,Prod.mk.injEq]at h1;obtain⟨rfl,rfl,rfl⟩:=h1;exact bAs rfl rfl hb.1 hr hb.2 (λhR h1 h2=>Ent.freezeR hR (eE (xB hb.1)) h1 h2) he hh}
 {cases h}
end
mutual
def ufH{τ:TS}(R o:Nat):TV τ->Bool
 | .agg vs=>bDr R o vs
 | .tup vs=>bDr R o vs
 | .bl _ _ vs=>bDr R o vs
 | .x (.nws r _ _ o' _ _)=>f9 r R&&f9 o' o
 | .x (.nelt r _ _ o' _ _ _)=>f9 r R&&f9 o' o
 |_=>false
def bDr{τ:TS}(R o:Nat):List (TV τ)->Bool
 |[]=>false
 |v::vs=>ufH R o v||bDr R o vs
end
mutual
def ufL{τ:TS}(R o:Nat):TV τ->List (Nat×Nat)
 | .agg vs=>aGw R o vs
 | .tup vs=>aGw R o vs
 | .x (.nws r c i o' _ _)=>match f9 r R&&f9 o' o with|true=>[(c,i)]|false=>[]
 |_=>[]
def aGw{τ:TS}(R o:Nat):List (TV τ)->List (Nat×Nat)
 |[]=>[]
 |v::vs=>ufL R o v++aGw R o vs
end
mutual
def ufV{τ:TS}(R o n:Nat)(b:Bool):TV τ->TV τ
 | .agg vs=> .agg (aId R o n b vs)
 | .tup vs=> .tup (aId R o n b vs)
 | .bl e m vs=>match bDr R o vs with|true=> .v .unk|false=> .bl e m vs
 | .x (.nws r c i o' c2 k)=>match f9 r R&&f9 o' o with
  |true=>(match b with|true=> .ws n c2 k|false=> .v .unk)
  |false=> .x (.nws r c i o' c2 k)
 | .x (.nelt r c i o' c2 j f)=>match f9 r R&&f9 o' o with
  |true=> .v .unk
  |false=> .x (.nelt r c i o' c2 j f)
 |v=>v
def aId{τ:TS}(R o n:Nat)(b:Bool):List (TV τ)->List (TV τ)
 |[]=>[]
 |v::vs=>ufV R o n b v::aId R o n b vs
end
def isS:Pl->Nat->Bool
 | .s i,j=>f9 i j
 |_,_=>false
def aZo(τ:TS1)(p:Pl)(R o:Nat)(E:TE τ.toTS)(H:TH τ.toTS)(n c i c':Nat)(xs:List (τ.T c'))(hs:List (Nat×Nat)):Option (TE τ.toTS×TH τ.toTS×Nat):=match (encS τ c' (getE τ.toTS c' xs i)).getD o (.v .unk)with
 | .x (.ow c3 ys)=>gb (f9 c' c&&!(hs.any λh=>f9 h.2 o)&&wU (ufH R o) [n,R] H) (some (tnE (ufH R o) (λs=>ufV R o n (isS p s)) E,((tnH (ufH R o) (λq s=>ufV R o n (isP p q s)) H).put R (some (.hol c' xs (hs++[(i,o)])))).put n (some (.row c3 ys)),n+1))
 |_=>none
def bSi(τ:TS1)(p:Pl)(R o:Nat)(E:TE τ.toTS)(H:TH τ.toTS)(n:Nat):Option (TE τ.toTS×TH τ.toTS×Nat):=match ufL R o (rX E H p)with
 |[(c,i)]=>match lkH H R with
  |some (.row c' xs)=>aZo τ p R o E H n c i c' xs []
  |some (.hol c' xs hs)=>aZo τ p R o E H n c i c' xs hs
  |_=>none
 |_=>none
section
variable {τ : TS2} {L n n' m : Nat} {E E' : TE τ.toTS} {H H' : TH τ.toTS} {env : List AV} {Hp : Heap}
structure UfOk (τ : TS2) (H : TH τ.toTS) (n : Nat) (H' : TH τ.toTS) (R o c0 i0 : Nat) (xs : List (τ.T c0)) (c3 : Nat) (ys : List (τ.T c3)) : Prop where
 ext:Ext H n H'
 row:aDt (lkH H R) c0 xs
 enc:(encS τ.toTS1 c0 (getE τ.toTS c0 xs i0)).getD o (.v .unk)= .x (.ow c3 ys)
 new:lkH H' n=some (.row c3 ys)
theorem bZf{c0 i0 o c3 r c i c2 k R:Nat}{xs:List (τ.T c0)}{ys:List (τ.T c3)}(u:UfOk τ H n H' R o c0 i0 xs c3 ys)(hr:r=R)(hi:i=i0)(hg:(τ.lf c)[o]? =some (.own c2)/\InAt H r c i o k):c=c0/\c2=c3/\ys.length=k:=by subst hr hi;obtain⟨h1,h2⟩:=hg;obtain⟨rfl,h3,h4⟩:=h2 _ _ u.row;have e1:=(pV u.enc).1;rw[h1]at e1;cases e1;rw[vJ u.enc]at h4;exact⟨rfl,rfl,h4⟩
mutual
theorem bBp{R o c0 i0 c3 j:Nat}{xs:List (τ.T c0)}{ys:List (τ.T c3)}(u:UfOk τ H n H' R o c0 i0 xs c3 ys)(hj:j=i0*τ.sz c0+o){b:Bool}:∀{v:TV τ.toTS},(b=true->∀h∈ufL R o v,h.2=i0)->Gd H n v->Uf R j n (tr τ.toTS1 v) (tr τ.toTS1 (ufV R o n b v))/\Gd H' (n+1) (ufV R o n b v)
 | .agg vs,hb,h=>by simp only[Gd]at h;obtain⟨a1,a2⟩:=aVy u hj (vs:=vs) (λe q hq=>hb e q (by simpa only[ufL]using hq)) h;exact⟨by simp only[ufV,tr];exact .agg _ _ a1,by simp only[ufV,Gd];exact a2⟩
 | .tup vs,hb,h=>by simp only[Gd]at h;obtain⟨a1,a2⟩:=aVy u hj (vs:=vs) (λe q hq=>hb e q (by simpa only[ufL]using hq)) h;exact⟨by simp only[ufV,tr];exact .tup _ _ a1,by simp only[ufV,Gd];exact a2⟩
 | .bl e m vs,_,h=>by simp only[ufV];split;{exact⟨by simp only[tr];exact .unk _,by simp only[Gd,plainV]⟩};{exact⟨.same _,Gd.ext (l9 n) u.ext h⟩}
 | .x (.nws r c i o' c2 k),hb,h=>by simp only[ufV];split;{rename_i hq;rw[x5]at hq;obtain⟨q1,q2⟩:=hq;have q1:=w6 q1;have q2:=w6 q2;subst q2;(cases b with|false=>exact⟨by simp only[tr];exact .unk _,by simp only[Gd,plainV]⟩|true=>have hi:=hb rfl (c,i) (by simp only[ufL,q1,Nat.beq_refl,Bool.and_self,u9]);simp only at hi;simp only[Gd,GdN]at h;obtain⟨rfl,rfl,e3⟩:=bZf u q1 hi h.2;subst q1 hi hj;refine⟨by simp only[tr,trN];exact .sref _ _ _ _ rfl,?_⟩;simp only[Gd];exact⟨y8 n,λp hp=>by rw[u.new]at hp;rw[<-e3];simpa[qN]using hp.symm⟩)};{exact⟨.same _,Gd.ext (l9 n) u.ext h⟩}
 | .x (.nelt r c i o' c2 k f),_,h=>by simp only[ufV];split;{exact⟨by simp only[tr];exact .unk _,by simp only[Gd,plainV]⟩};{exact⟨.same _,Gd.ext (l9 n) u.ext h⟩}
 | .v x,_,h=>⟨.same _,Gd.ext (l9 n) u.ext h⟩
 | .ws _ _ _,_,h=>⟨.same _,Gd.ext (l9 n) u.ext h⟩
 | .part _ _ _ _,_,h=>⟨.same _,Gd.ext (l9 n) u.ext h⟩
 | .elt _ _ _ _,_,h=>⟨.same _,Gd.ext (l9 n) u.ext h⟩
 | .bor _ _,_,h=>⟨.same _,Gd.ext (l9 n) u.ext h⟩
 | .bel _ _ _ _,_,h=>⟨.same _,Gd.ext (l9 n) u.ext h⟩
 | .x (.ow _ _),_,h=>⟨.same _,Gd.ext (l9 n) u.ext h⟩
 | .x (.wc _ _ _),_,h=>⟨.same _,Gd.ext (l9 n) u.ext h⟩
theorem aVy{R o c0 i0 c3 j:Nat}{xs:List (τ.T c0)}{ys:List (τ.T c3)}(u:UfOk τ H n H' R o c0 i0 xs c3 ys)(hj:j=i0*τ.sz c0+o){b:Bool}:∀{vs:List (TV τ.toTS)},(b=true->∀h∈aGw R o vs,h.2=i0)->Gds H n vs->Ufs R j n (trs τ.toTS1 vs) (trs τ.toTS1 (aId R o n b vs))/\Gds H' (n+1) (aId R o n b vs)
 |[],_,_=>⟨by simp only[aId,trs];exact .nil,by simp only[aId,Gds]⟩
 |v::vs,hb,h=>by simp only[Gds]at h;obtain⟨a1,a2⟩:=bBp u hj (λe q hq=>hb e q (by simp only[aGw,p7];exact .inl hq)) h.1;obtain⟨b1,b2⟩:=aVy u hj (λe q hq=>hb e q (by simp only[aGw,p7];exact .inr hq)) h.2;exact⟨by simp only[aId,trs];exact .cons _ _ _ _ a1 b1,by simp only[aId,Gds];exact⟨a2,b2⟩⟩
end
theorem bHq{c:Nat}{xs:List (τ.T c)}{i o:Nat}{x:AV}:∀{hs:List (Nat×Nat)} {cs:List AV},cs.getD (i*τ.sz c+o) .unk=x->o<τ.sz c->(∀h∈hs,h.2<τ.sz c/\h.2≠o)->(hs.foldl (λcs h=>cs.set (h.1*τ.sz c+h.2) .unk) cs).getD (i*τ.sz c+o) .unk=x
 |[],cs,h,_,_=>h
 |q::hs,cs,h,ho,hq=>by have h1:=hq q (by simp);refine bHq (xs:=xs) (hs:=hs) (bXb ?_ h) ho λp hp=>hq p (m8 _ hp);intro e;have e2:(q.1*τ.sz c+q.2)%τ.sz c=(i*τ.sz c+o)%τ.sz c:=(by rw[e]);rw[Nat.mul_add_mod_self_right,Nat.mul_add_mod_self_right,Nat.mod_eq_of_lt h1.1,Nat.mod_eq_of_lt ho]at e2;exact h1.2 e2
theorem bAk{p:Pl}{R o c i c':Nat}{xs:List (τ.T c')}{hs:List (Nat×Nat)}(h:aZo τ.toTS1 p R o E H n c i c' xs hs=some (E',H',n'))(hp:ufL R o (rX E H p)=[(c,i)])(hr:lkH H R=some (.row c' xs)/\hs=[]\/lkH H R=some (.hol c' xs hs))(he:EOk τ.toTS1 L E H n env)(hh:HtOk τ.toTS1 H n Hp):aIu τ L m E H n env Hp E' H' n':=by
 unfold aZo at h;split at h
 · rename_i c3 ys henc
   obtain⟨hb,h1⟩:=aF h;simp only[x5,u0,List.any_eq_false]at hb;obtain⟨⟨hb1,hb2⟩,hraw⟩:=hb;have hb1:=w6 hb1;subst hb1;simp only[w7.injEq,Prod.mk.injEq]at h1;obtain⟨rfl,rfl,rfl⟩:=h1;have hrow:aDt (lkH H R) c' xs:=hr.elim (λh=> .inl h.1) λh=> .inr ⟨hs,h⟩;have hsome:∃t,lkH H R=some t:=hr.elim (λh=>⟨_,h.1⟩) λh=>⟨_,h⟩;obtain⟨t0,ht0⟩:=hsome;have hRn:=hh.lt ht0;have hcs:Hp.get1 R=some ⟨τ.tid c',hs.foldl (λcs h=>cs.set (h.1*τ.sz c'+h.2) .unk) (fl (τ.av c') xs)⟩:=(by rw[hh.heap];rcases hr with⟨h1,rfl⟩|h1<;>rw[h1]<;>rfl);have hold:∀h∈hs,h.1<xs.length/\h.2<τ.sz c':=(by rcases hr with⟨_,rfl⟩|h1;{intro h hh;cases hh};{exact(hh.all _ _ h1).2});have ho:=(pV henc).2;have hgv:Gd H n (rX E H p):=aWf he hh p;have hin:∃c2 k,(τ.lf c')[o]? =some (.own c2)/\InAt H R c' i o k:=(by have key:∀{v:TV τ.toTS},Gd H n v->∀q∈ufL R o v,∃c2 k,(τ.lf q.1)[o]? =some (.own c2)/\InAt H R q.1 q.2 o k:=(by intro v hv;exact ufL_in hv);exact key hgv (c',i) (by rw[hp];exact u9.2 rfl));obtain⟨_,k0,_,hin⟩:=hin;obtain⟨_,hi,hk⟩:=hin _ _ hrow
   letI:=τ.inh c'
   generalize hg:(λ(q s:Nat)=>ufV (τ:=τ.toTS) R o n (isP p q s))=g;generalize hf:(λ(s:Nat)=>ufV (τ:=τ.toTS) R o n (isS p s))=f;have x1:Ext H n (((tnH (ufH R o) g H).put R (some (.hol c' xs (hs++[(i,o)])))).put n (some (.row c3 ys))):=λr hrn=>by rw[aM,if_neg (by omega),aM];split;{rename_i e;subst e;exact Ex1.hol hrow};{rw[zP];exact aUd}
   have u:UfOk τ H n (((tnH (ufH R o) g H).put R (some (.hol c' xs (hs++[(i,o)])))).put n (some (.row c3 ys))) R o c' i xs c3 ys:=⟨x1,hrow,henc,by rw[aM,if_pos rfl]⟩;have T:Turn τ (Uf R (i*τ.sz c'+o) n) (ufH R o) f g E H n (((tnH (ufH R o) g H).put R (some (.hol c' xs (hs++[(i,o)])))).put n (some (.row c3 ys))) (n+1):=(by refine⟨λx=> .same x,λx=> .unk x,rfl,λv hv _=>Gd.ext (l9 n) x1 hv,λs hv _=>?_,λr e vs ts s hl _ hv _=>?_⟩;{subst hf;refine bBp u rfl (λhb q hq=>?_) hv;(cases p with|s s'=>have:=w6 hb;subst this;simp only[rX]at hp;rw[hp]at hq;rw[u9.1 hq]|c _ _=>cases hb)};{subst hg;refine bBp u rfl (λhb q hq=>?_) hv;(cases p with|s s'=>cases hb|c r' s'=>simp only[isP,x5]at hb;have b1:=w6 hb.1;have b2:=w6 hb.2;subst b1 b2;simp only[rX,hl]at hp;rw[hp]at hq;rw[u9.1 hq])});obtain⟨e1,e2⟩:=T.frame he
   have hk:HtOk τ.toTS1 (((tnH (ufH R o) g H).put R (some (.hol c' xs (hs++[(i,o)])))).put n (some (.row c3 ys))) (n+1) (cnH τ.toTS1 (((tnH (ufH R o) g H).put R (some (.hol c' xs (hs++[(i,o)])))).put n (some (.row c3 ys)))):=T.heap hh hraw (l9 n) (λq hq=>by
    simp only[g8,List.not_mem_nil,or_false,not_or]at hq;rw[aM,if_neg (λe=>hq.1 e.symm),aM,if_neg (λe=>hq.2 e.symm)]) (λq hq t ht=>by
    simp only[g8,List.not_mem_nil,or_false]at hq;rw[aM]at ht;split at ht;{rename_i e;subst e;cases ht;exact⟨y8 n,mV⟩}
    · rename_i hne
      rcases hq with hq|rfl;{exact absurd hq.symm hne}
      · rw[aM,if_pos rfl]at ht
        cases ht;refine⟨by omega,by simp only[tvs,Gds],λh hm=>?_⟩;rcases p7.1 hm with hm|hm;{exact hold h hm}
        · rw[u9.1 hm];exact⟨hi,ho⟩) (wW (wW (aUh hh.tm)))
   have hj:=bHq (τ:=τ) (xs:=xs) (hs:=hs) (i:=i) (o:=o) (cs:=fl (τ.av c') xs) (x:= .own (τ.tid c3) (τ.sz c3) ys.length (fl (τ.av c3) ys)) (by rw[vO (bJ c') hi ho];exact aFp henc) ho λh hm=>⟨(hold h hm).2,λe=>by have:=hb2 h hm;rw[e]at this;simp at this⟩;have hrest:∀r t2,(cnH τ.toTS1 ((tnH (ufH R o) g H).put R none)).get1 r=some t2->r≠R/\∃t,Hp.get1 r=some t/\t2.e=t.e/\Ufs R (i*τ.sz c'+o) n t.cs t2.cs:=λr t2 hr2=>by rw[dV,aM]at hr2;split at hr2;{cases hr2};{rename_i hne;(cases e3:lkH (tnH (ufH R o) g H) r with|none=>rw[e3]at hr2;cases hr2|some t2'=>rw[e3]at hr2;cases hr2;obtain⟨t,a1,a2,a3,a4⟩:=T.root hh e3;exact⟨λe=>hne e.symm,trR τ.toTS1 t,by rw[hh.heap,a1];rfl,a2,Ufs.of_get a3 a4⟩)}
   have hent:=Ent.unfold (m:=m) (n:=n) hcs hj (Ufs.of_get (by rw[wB,he.len]) e2) (HU.of hrest (fC (cnH τ.toTS1 ((tnH (ufH R o) g H).put R none))));refine⟨_,_,hent,e1,hk.heapEq λr=>?_,l9 n,aSw rfl,tnH_fx.trans ((FxH.putO λ_ _ _ e=>by cases e).trans FxH.putRow)⟩;rw[dV,cQ,aM];split;{rfl};{rw[cQ,aM];split;{simp only[Option.map_some,trR,List.foldl_append,List.foldl_cons,List.foldl_nil]};{rename_i hne;have:(nrm (cnH τ.toTS1 ((tnH (ufH R o) g H).put R none))).get1 r=_:=bEm;unfold nrm at this;rw[this,dV,aM,if_neg hne]}}
 {cases h}
where
 ufL_in {R o:Nat}:∀{v:TV τ.toTS},Gd H n v->∀q∈ufL R o v,∃c2 k,(τ.lf q.1)[o]? =some (.own c2)/\InAt H R q.1 q.2 o k
  | .agg vs,h,q,hq=>ufLs_in (vs:=vs) (by simpa only[Gd]using h) q (by simpa only[ufL]using hq)
  | .tup vs,h,q,hq=>ufLs_in (vs:=vs) (by simpa only[Gd]using h) q (by simpa only[ufL]using hq)
  | .x (.nws r c i o' c2 k),h,q,hq=>by
   simp only[ufL]at hq
   split at hq
   · rename_i hb
     rw[x5]at hb
     have b1:=w6 hb.1
     have b2:=w6 hb.2
     subst b1 b2
     rw[u9.1 hq]
     simp only[Gd,GdN]at h
     exact⟨c2,k,h.2⟩
   · cases hq
  | .v _,_,q,hq=>by simp only[ufL]at hq;cases hq
  | .ws _ _ _,_,q,hq=>by simp only[ufL]at hq;cases hq
  | .part _ _ _ _,_,q,hq=>by simp only[ufL]at hq;cases hq
  | .elt _ _ _ _,_,q,hq=>by simp only[ufL]at hq;cases hq
  | .bor _ _,_,q,hq=>by simp only[ufL]at hq;cases hq
  | .bel _ _ _ _,_,q,hq=>by simp only[ufL]at hq;cases hq
  | .bl _ _ _,_,q,hq=>by simp only[ufL]at hq;cases hq
  | .x (.ow _ _),_,q,hq=>by simp only[ufL]at hq;cases hq
  | .x (.nelt _ _ _ _ _ _ _),_,q,hq=>by simp only[ufL]at hq;cases hq
  | .x (.wc _ _ _),_,q,hq=>by simp only[ufL]at hq;cases hq
 ufLs_in {R o:Nat}:∀{vs:List (TV τ.toTS)},Gds H n vs->∀q∈aGw R o vs,∃c2 k,(τ.lf q.1)[o]? =some (.own c2)/\InAt H R q.1 q.2 o k
  |[],_,q,hq=>by simp only[aGw]at hq;cases hq
  |v::vs,h,q,hq=>by
   simp only[Gds]at h
   simp only[aGw,p7]at hq
   exact hq.elim (ufL_in h.1 q) (ufLs_in h.2 q)
theorem bYg{p:Pl}{R o:Nat}(h:bSi τ.toTS1 p R o E H n=some (E',H',n'))(he:EOk τ.toTS1 L E H n env)(hh:HtOk τ.toTS1 H n Hp):aIu τ L m E H n env Hp E' H' n':=by unfold bSi at h;split at h;{rename_i c i hp;split at h;{rename_i c' xs hr;exact bAk h hp (.inl ⟨hr,rfl⟩) he hh};{rename_i c' xs hs hr;exact bAk h hp (.inr hr) he hh};{cases h}};{cases h}
end
structure FoD where
 R:Nat
 n:Nat
 c:Nat
 i:Nat
 rs:List (Nat×Nat)
 sub:Bool
 wc:Option (Nat×Nat)
def aQl:List (Nat×Nat)->Nat->Option Nat
 |[],_=>none
 |(q,p)::l,r=>match f9 q r with|true=>some p|false=>aQl l r
def foB{τ:TS}(R:Nat)(bad:List Nat)(v:TV τ):Bool:=(bC v).any λr=>f9 r R||bad.any (f9 r)
def fz1{τ:TS}(f:FoD):TV τ->TV τ
 | .ws r c k=>match f9 r f.R with
  |true=>(match f.wc with|none=> .ws f.n c k|some _=> .v .unk)
  |false=>match aQl f.rs r with
   |some p=>(match f.sub with|true=> .x (.nws f.n f.c f.i p c k)|false=> .v .unk)
   |none=> .v .unk
 | .part r c i k=>match f9 r f.R with
  |true=>(match f.wc with|none=> .part f.n c i k|some _=> .v .unk)
  |false=> .v .unk
 | .elt r c i o=>match f9 r f.R with
  |true=>(match f.wc with|none=> .elt f.n c i o|some _=> .v .unk)
  |false=>match aQl f.rs r with
   |some p=>(match f.sub with|true=> .x (.nelt f.n f.c f.i p c i o)|false=> .v .unk)
   |none=> .v .unk
 | .x (.wc r e m)=>match f.wc with
  |some (e0,m0)=>(match f9 r f.R&&f9 e e0&&f9 m m0 with|true=> .ws f.n f.c m|false=> .v .unk)
  |none=> .v .unk
 |_=> .v .unk
mutual
def fzV{τ:TS}(f:FoD)(bad:List Nat):TV τ->TV τ
 | .agg vs=> .agg (aHf f bad vs)
 | .tup vs=> .tup (aHf f bad vs)
 |v=>match foB f.R bad v with|true=>fz1 f v|false=>v
def aHf{τ:TS}(f:FoD)(bad:List Nat):List (TV τ)->List (TV τ)
 |[]=>[]
 |v::vs=>fzV f bad v::aHf f bad vs
end
def bZw{τ:TS}(H:TH τ):Lf->TV τ->Option (TV τ×Option (Option Nat))
 | .own c2,.ws r _ _=>match lkH H r with
  |some (.row c' ys)=>match f9 c' c2 with|true=>some (.x (.ow c' ys),some (some r))|false=>none
  |_=>none
 | .own c2,.v .nil=>some (.x (.ow c2 []),some none)
 | .own c2,.v .emp=>some (.x (.ow c2 []),some none)
 | .own _,_=>none
 |_,v=>some (v,none)
def cnv{τ:TS}(H:TH τ):List Lf->List (TV τ)->Option (List (TV τ)×List (Option (Option Nat)))
 |_,[]=>some ([],[])
 |[],_::_=>none
 |l::ls,v::vs=>match bZw H l v with
  |some (w,q)=>match cnv H ls vs with
   |some (ws,qs)=>some (w::ws,q::qs)
   |none=>none
  |none=>none
def bKi(l:List Lf):Nat->List Lf
 |0=>[]
 |k+1=>l++bKi l k
def aQp(o:Nat):List (Option (Option Nat))->List (Nat×Nat)
 |[]=>[]
 |some (some r)::L=>(r,o)::aQp (o+1) L
 |_::L=>aQp (o+1) L
def yF{τ:TS}(f:FoD)(bad:List Nat)(ys:List (τ.T f.c))(E:TE τ)(H:TH τ):TE τ×TH τ×Nat:=(tnE (foB f.R bad) (λ_=>fzV f bad) E,(nY (tnH (foB f.R bad) (λ_ _=>fzV f bad) H) (f.R::bad)).put f.n (some (.row f.c ys)),f.n+1)
def aXb{τ:TS}(R n:Nat)(q:List (Option (Option Nat)))(H:TH τ):Bool:=rM (cD q)&&!((cD q).contains R)&&wU (foB R (cD q)) (n::R::cD q) H
def bMm(τ:TS1)(R:Nat)(E:TE τ.toTS)(H:TH τ.toTS)(n:Nat):Option (TE τ.toTS×TH τ.toTS×Nat):=match lkH H R with
 |some (.pst c xs i off us)=>match cnv H ((τ.lf c).drop off) us with
  |some (ws,q)=>gb (aXb R n q H) (match unL (τ.lf c) (setTV (encS τ c (getE τ.toTS c xs i)) off ws)with
   |some t=>some (yF ⟨R,n,c,i,aQp off q,true,none⟩ (cD q) (xs.set i (τ.mkS c t)) E H)
   |none=>none)
  |none=>none
 |some (.pap c xs us m)=>match cnv H (bKi (τ.lf c) m) us with
  |some (ws,q)=>gb (aXb R n q H) (match aBv τ c m ws with
   |some ys=>some (yF ⟨R,n,c,0,[],false,none⟩ (cD q) (xs++ys) E H)
   |none=>none)
  |none=>none
 |some (.pmk c k z)=>match cnv H (τ.lf c) z with
  |some (ws,q)=>gb (aXb R n q H&&(cD q).isEmpty) (match unL (τ.lf c) ws with
   |some t=>some (yF ⟨R,n,c,0,[],false,none⟩ [] (j0 k (τ.mkS c t)) E H)
   |none=>none)
  |none=>none
 |some (.cells e vs _)=>match cnv H (bKi (τ.lf (τ.ow e)) (vs.length/τ.sz e)) vs with
  |some (ws,q)=>gb (aXb R n q H&&f9 (τ.tid (τ.ow e)) e&&f9 (τ.sz (τ.ow e)) (τ.sz e)) (match aBv τ (τ.ow e) (vs.length/τ.sz e) ws with
   |some ys=>some (yF ⟨R,n,τ.ow e,0,[],false,some (e,vs.length/τ.sz e)⟩ (cD q) ys E H)
   |none=>none)
  |none=>none
 |_=>none
def bWj(τ:TS1)(j:Nat)(E:TE τ.toTS)(H:TH τ.toTS)(n:Nat):Option (TE τ.toTS×TH τ.toTS×Nat):=match lkE E j with
 | .part R c i k=>match lkH H R with
  |some (.row c' xs)=>gb (f9 c' c&&τ.pl c'&&wU (frB R) [n,R] H) (some ((tnE (frB R) (λ_ _=> .v .unk) E).put j (.ws n c' k),((tnH (frB R) (λ_ _ _=> .v .unk) H).put R none).put n (some (.row c' ((xs.drop i).take k))),n+1))
  |_=>none
 |_=>none
section
variable {τ : TS2} {L n n' m : Nat} {E E' : TE τ.toTS} {H H' : TH τ.toTS} {env : List AV} {Hp : Heap}
structure FoOk (τ : TS2) (H : TH τ.toTS) (n : Nat) (H' : TH τ.toTS) (f : FoD) (bad : List Nat) (S : List (Nat × Nat)) : Prop where
 nn:f.n=n
 ext:∀r,r<n->r≠f.R->r∉bad->Ex1 (lkH H r) (lkH H' r)
 row:f.wc=none->∀c k,RowLen H f.R c k->RowLen H' n c k
 pos:∀r p,aQl f.rs r=some p->(r,f.i*τ.sz f.c+p)∈S
 inn:∀r p c k,aQl f.rs r=some p->f.sub=true->RowLen H r c k->(τ.lf f.c)[p]? =some (.own c)/\InAt H' n f.c f.i p k
 wcs:∀e m,f.wc=some (e,m)->τ.sz e=τ.sz f.c/\RowLen H' n f.c m
theorem zM{f:FoD}{bad:List Nat}{S:List (Nat×Nat)}(u:FoOk τ H n H' f bad S){v:TV τ.toTS}(h:Gd H n v):Rd f.R n S (tr τ.toTS1 v) (tr τ.toTS1 (fz1 f v))/\Gd H' (n+1) (fz1 f v):=by have no:Rd f.R n S (tr τ.toTS1 v) (tr τ.toTS1 (.v .unk))/\Gd H' (n+1) (.v .unk):=⟨by simp only[tr];exact .unk _,by simp only[Gd,plainV]⟩;have hn:=u.nn;unfold fz1;split;{rename_i r c k;simp only[Gd]at h;split;{rename_i hb;have hb:=w6 hb;split;{rename_i hw;subst hb;rw[hn];exact⟨by simp only[tr];exact .sref _ _ _ _ rfl,by simp only[Gd];exact⟨y8 n,u.row hw c k h.2⟩⟩};{exact no}};{split;{rename_i p hp;split;{rename_i hs;obtain⟨a,b⟩:=u.inn r p c k hp hs h.2;rw[hn];exact⟨by simp only[tr,trN];exact .sub _ _ _ _ _ _ (u.pos r p hp) rfl,by simp only[Gd,GdN];exact⟨y8 n,a,b⟩⟩};{exact no}};{exact no}}};{rename_i r c i k;simp only[Gd]at h;split;{rename_i hb;have hb:=w6 hb;split;{rename_i hw;subst hb;rw[hn];obtain⟨q,a,b⟩:=h.2;exact⟨by simp only[tr];exact .sref _ _ _ _ rfl,by simp only[Gd];exact⟨y8 n,q,a,u.row hw c q b⟩⟩};{exact no}};{exact no}};{rename_i r c i o;simp only[Gd]at h;split;{rename_i hb;have hb:=w6 hb;split;{rename_i hw;subst hb;rw[hn];obtain⟨q,a,b⟩:=h.2;exact⟨by simp only[tr];exact .ptr _,by simp only[Gd];exact⟨y8 n,q,a,u.row hw c q b⟩⟩};{exact no}};{split;{rename_i p hp;split;{rename_i hs;obtain⟨q,h1,h2⟩:=h.2;obtain⟨a,b⟩:=u.inn r p c q hp hs h2;rw[hn];exact⟨by simp only[tr,trN];exact .subp _ _ _ (u.pos r p hp),by simp only[Gd,GdN];exact⟨y8 n,a,q,h1,b⟩⟩};{exact no}};{exact no}}};{rename_i r e m;split;{rename_i e0 m0 hw;split;{rename_i hb;simp only[x5]at hb;have b1:=w6 hb.1.1;have b2:=w6 hb.1.2;have b3:=w6 hb.2;subst b1 b2 b3;obtain⟨w1,w2⟩:=u.wcs _ _ hw;rw[hn];exact⟨by simp only[tr,trN];rw[w1];exact .sref _ _ _ _ rfl,by simp only[Gd];exact⟨y8 n,w2⟩⟩};{exact no}};{exact no}};{exact no}
theorem cBu{R:Nat}{bad:List Nat}{v:TV τ.toTS}(h:foB R bad v=false):∀r∈bC v,r≠R/\r∉bad:=λr hr=>by simp only[foB,List.any_eq_false,r9,not_or]at h;obtain⟨a,b⟩:=h r hr;refine⟨λe=>a (by rw[e];exact Nat.beq_refl R),λhm=>b (by rw[List.any_eq_true];exact⟨r,hm,Nat.beq_refl r⟩)⟩
mutual
theorem Gd.onR(hn:n<=n'){v:TV τ.toTS}(hx:∀r∈bC v,r<n->Ex1 (lkH H r) (lkH H' r))(h:Gd H n v):Gd H' n' v:=by
 (cases v with|v x=>simp only[Gd]at h ⊢;exact h.more hn|ws r c k=>simp only[Gd,bC,u9,forall_eq]at h hx ⊢;exact⟨by omega,h.2.ext1 (hx h.1)⟩|part r c i o=>simp only[Gd,bC,u9,forall_eq]at h hx ⊢;obtain⟨h1,k,h2,h3⟩:=h;exact⟨by omega,k,h2,h3.ext1 (hx h1)⟩|elt r c i o=>simp only[Gd,bC,u9,forall_eq]at h hx ⊢;obtain⟨h1,k,h2,h3⟩:=h;exact⟨by omega,k,h2,h3.ext1 (hx h1)⟩|bor _ _=>simpa only[Gd]using h|bel _ _ _ _=>simpa only[Gd]using h|agg vs=>simp only[Gd,bC]at h hx ⊢;exact Gds.onR hn hx h|tup vs=>simp only[Gd,bC]at h hx ⊢;exact Gds.onR hn hx h|bl _ _ vs=>simp only[Gd,bC]at h hx ⊢;exact Gds.onR hn hx h|x a=>(cases a with|ow _ _=>simp only[Gd,GdN]at h|nws r c i o c2 k=>simp only[Gd,GdN,bC,u9,forall_eq]at h hx ⊢;exact⟨by omega,h.2.1,h.2.2.ext1 (hx h.1)⟩|nelt r c i o c2 j _=>simp only[Gd,GdN,bC,u9,forall_eq]at h hx ⊢;obtain⟨h1,h2,k,h3,h4⟩:=h;exact⟨by omega,h2,k,h3,h4.ext1 (hx h1)⟩|wc r _ _=>simp only[Gd,GdN]at h ⊢;omega))
theorem Gds.onR(hn:n<=n'){vs:List (TV τ.toTS)}(hx:∀r∈iE vs,r<n->Ex1 (lkH H r) (lkH H' r))(h:Gds H n vs):Gds H' n' vs:=by
 (cases vs with|nil=>simp only[Gds]|cons v vs=>simp only[Gds]at h ⊢;simp only[iE,p7]at hx;exact⟨Gd.onR hn (λr hr=>hx r (.inl hr)) h.1,Gds.onR hn (λr hr=>hx r (.inr hr)) h.2⟩)
end
theorem sP{f:FoD}{bad:List Nat}{S:List (Nat×Nat)}(u:FoOk τ H n H' f bad S){v:TV τ.toTS}(h:Gd H n v)(hb:foB f.R bad v=false):Gd H' (n+1) v:=Gd.onR (l9 n) (λr hr hrn=>by obtain⟨a,b⟩:=cBu hb r hr;exact u.ext r hrn a b) h
mutual
theorem bEz{f:FoD}{bad:List Nat}{S:List (Nat×Nat)}(u:FoOk τ H n H' f bad S):∀{v:TV τ.toTS},Gd H n v->Rd f.R n S (tr τ.toTS1 v) (tr τ.toTS1 (fzV f bad v))/\Gd H' (n+1) (fzV f bad v)
 | .agg vs,h=>by simp only[Gd]at h;obtain⟨a,b⟩:=aVr u h;exact⟨by simp only[fzV,tr];exact .agg _ _ a,by simp only[fzV,Gd];exact b⟩
 | .tup vs,h=>by simp only[Gd]at h;obtain⟨a,b⟩:=aVr u h;exact⟨by simp only[fzV,tr];exact .tup _ _ a,by simp only[fzV,Gd];exact b⟩
 | .v x,h=>by simp only[fzV];split;{exact zM u h};{rename_i hb;exact⟨.same _,sP u h hb⟩}
 | .ws _ _ _,h=>by simp only[fzV];split;{exact zM u h};{rename_i hb;exact⟨.same _,sP u h hb⟩}
 | .part _ _ _ _,h=>by simp only[fzV];split;{exact zM u h};{rename_i hb;exact⟨.same _,sP u h hb⟩}
 | .elt _ _ _ _,h=>by simp only[fzV];split;{exact zM u h};{rename_i hb;exact⟨.same _,sP u h hb⟩}
 | .bor _ _,h=>by simp only[fzV];split;{exact zM u h};{rename_i hb;exact⟨.same _,sP u h hb⟩}
 | .bel _ _ _ _,h=>by simp only[fzV];split;{exact zM u h};{rename_i hb;exact⟨.same _,sP u h hb⟩}
 | .bl _ _ _,h=>by simp only[fzV];split;{exact zM u h};{rename_i hb;exact⟨.same _,sP u h hb⟩}
 | .x _,h=>by simp only[fzV];split;{exact zM u h};{rename_i hb;exact⟨.same _,sP u h hb⟩}
theorem aVr{f:FoD}{bad:List Nat}{S:List (Nat×Nat)}(u:FoOk τ H n H' f bad S):∀{vs:List (TV τ.toTS)},Gds H n vs->Rds f.R n S (trs τ.toTS1 vs) (trs τ.toTS1 (aHf f bad vs))/\Gds H' (n+1) (aHf f bad vs)
 |[],_=>⟨by simp only[aHf,trs];exact .nil,by simp only[aHf,Gds]⟩
 |v::vs,h=>by simp only[Gds]at h;obtain⟨a1,a2⟩:=bEz u h.1;obtain⟨b1,b2⟩:=aVr u h.2;exact⟨by simp only[aHf,trs];exact .cons _ _ _ _ a1 b1,by simp only[aHf,Gds];exact⟨a2,b2⟩⟩
end
theorem killT_fx:∀{pl:List Nat} {H:TH τ.toTS},FxH H (nY H pl)
 |[],_=>FxH.refl
 |p::pl,H=>kill_fx.trans (killT_fx (pl:=pl) (H:=H.put p none))
theorem bDm:∀{pl:List Nat} {H:TH τ.toTS},(∀r,tmH H r<H.q)->∀r,tmH (nY H pl) r<(nY H pl).q
 |[],_,h=>h
 |p::pl,H,h=>bDm (pl:=pl) (H:=H.put p none) (wW h)
theorem aGs {f:FoD} {bad:List Nat} {ys:List (τ.T f.c)} {S:List (Nat×Nat)} (hfin:yF f bad ys E H=(E',H',n')) (u:FoOk τ H n H' f bad S) (hraw:wU (foB f.R bad) (n::f.R::bad) H=true) (hR:f.R<n) (hbad:∀r∈bad,r<n)
 (hent:∀xs2 H2,Rds f.R n S env xs2->HD f.R n S bad Hp H2->Ent m xs2 ((n,some ⟨τ.tid f.c,fl (τ.av f.c) ys⟩)::H2) (n+1) env Hp n) (he:EOk τ.toTS1 L E H n env) (hh:HtOk τ.toTS1 H n Hp):aIu τ L m E H n env Hp E' H' n':=by
 have hn:=u.nn;simp only[yF,Prod.mk.injEq]at hfin;obtain⟨rfl,hH',hn'⟩:=hfin;rw[hn]at hH' hn';subst hn';have T:Turn τ (Rd f.R n S) (foB f.R bad) (λ_=>fzV f bad) (λ_ _=>fzV f bad) E H n H' (n+1):=⟨λx=> .same x,λx=> .unk x,rfl,λv hv hb=>sP u hv hb,λi hv _=>bEz u hv,λr e vs ts o _ _ hv _=>bEz u hv⟩;obtain⟨e1,e2⟩:=T.frame he;have hlk:∀q,q∉n::f.R::bad->lkH H' q=lkH (tnH (foB f.R bad) (λ_ _=>fzV f bad) H) q:=λq hq=>by rw[g8,not_or]at hq;rw[<-hH',aM,if_neg (λe=>hq.1 e.symm),xO,if_neg hq.2]
 have hk:HtOk τ.toTS1 H' (n+1) (cnH τ.toTS1 H'):=T.heap hh hraw (l9 n) hlk (λq hq t ht=>by
  rw[<-hH',aM]at ht;split at ht;{rename_i e;subst e;cases ht;exact⟨y8 n,mV⟩}
  · rename_i hne;rw[g8]at hq;rw[xO,if_pos (hq.resolve_left λe=>hne e.symm)]at ht;cases ht) (by rw[<-hH'];exact wW (bDm (aUh hh.tm)))
 have hrest:∀r t2,(cnH τ.toTS1 (nY (tnH (foB f.R bad) (λ_ _=>fzV f bad) H) (f.R::bad))).get1 r=some t2->r≠f.R/\r∉bad/\∃t,Hp.get1 r=some t/\t2.e=t.e/\Rds f.R n S t.cs t2.cs:=λr t2 hr2=>by
  rw[dV,xO]at hr2;split at hr2;{cases hr2}
  · rename_i hne
    rw[g8,not_or]at hne;cases e3:lkH (tnH (foB f.R bad) (λ_ _=>fzV f bad) H) r with
    |none=>rw[e3]at hr2;cases hr2
    |some t2'=>rw[e3]at hr2;cases hr2;obtain⟨t,a1,a2,a3,a4⟩:=T.root hh e3;exact⟨hne.1,hne.2,trR τ.toTS1 t,by rw[hh.heap,a1];rfl,a2,Rds.of_get a3 a4⟩
 have hE:=hent _ _ (Rds.of_get (by rw[wB,he.len]) e2) (HD.of hrest (fC (cnH τ.toTS1 (nY (tnH (foB f.R bad) (λ_ _=>fzV f bad) H) (f.R::bad)))));refine⟨_,_,hE,e1,hk.heapEq λr=>?_,l9 n,aSw rfl,?_⟩;{rw[dV,cQ,<-hH',aM];split;{rfl};{have:(nrm (cnH τ.toTS1 (nY (tnH (foB f.R bad) (λ_ _=>fzV f bad) H) (f.R::bad)))).get1 r=_:=bEm;unfold nrm at this;rw[this,dV]}};{rw[<-hH'];exact tnH_fx.trans (killT_fx.trans FxH.putRow)}
theorem aKw(hh:HtOk τ.toTS1 H n Hp):∀{ls:List Lf} {vs ws:List (TV τ.toTS)} {q:List (Option (Option Nat))},cnv H ls vs=some (ws,q)->Gds H n vs->
 FCs Hp q (trs τ.toTS1 vs) (trs τ.toTS1 ws)/\ws.length=vs.length/\∀k r,q.getD k none=some (some r)->r<n/\k<vs.length/\∃c2 ys,ls[k]? =some (.own c2)/\lkH H r=some (.row c2 ys)/\ws.getD k (.v .unk)= .x (.ow c2 ys)
 |ls,[],ws,q,h,_=>by simp only[cnv]at h;cases h;exact⟨.nil,rfl,λk r hk=>by simp at hk⟩
 |[],v::vs,ws,q,h,_=>by cases h
 |l::ls,v::vs,ws,q,h,hg=>by simp only[cnv]at h;split at h;{rename_i w p hw;split at h;{rename_i ws' q' hq;cases h;simp only[Gds]at hg;obtain⟨a1,a2,a3⟩:=aKw hh hq hg.2;have key:FCell Hp p (tr τ.toTS1 v) (tr τ.toTS1 w)/\∀r,p=some (some r)->r<n/\∃c2 ys,l= .own c2/\lkH H r=some (.row c2 ys)/\w= .x (.ow c2 ys):=(by unfold bZw at hw;split at hw;{rename_i c2 r c0 k0;split at hw;{rename_i c' ys hr;split at hw;{rename_i hb;have hb:=w6 hb;subst hb;cases hw;have hgv:=hg.1;simp only[Gd]at hgv;obtain⟨e1,e2⟩:=hgv.2.row hr;subst e1;refine⟨?_,λr' e=>by cases e;exact⟨hh.lt hr,c',ys,rfl,hr,rfl⟩⟩;simp only[tr,trN];exact .root _ _ _ _ _ _ (by rw[hh.heap,hr];rfl) e2.symm};{cases hw}};{cases hw}};{cases hw;exact⟨by simp only[tr,trN,l7];exact .nil _ _,λr e=>by cases e⟩};{cases hw;exact⟨by simp only[tr,trN,l7];exact .emp _ _,λr e=>by cases e⟩};{cases hw};{cases hw;exact⟨.same _,λr e=>by cases e⟩});refine⟨by simp only[trs];exact .cons key.1 a1,by simp only[y7,a2],λk r hk=>?_⟩;(cases k with|zero=>simp only[List.getD_cons_zero]at hk ⊢;obtain⟨b1,c2,ys,b2,b3,b4⟩:=key.2 r hk;exact⟨b1,by simp,c2,ys,by simp[b2],b3,b4⟩|succ k=>simp only[r7]at hk ⊢;obtain⟨b1,b0,c2,ys,b2,b3,b4⟩:=a3 k r hk;exact⟨b1,by simpa using b0,c2,ys,by simpa using b2,b3,b4⟩)};{cases h}};{cases h}
theorem aRi{q:List (Option (Option Nat))}:∀{r:Nat},r∈cD q->∃k,q.getD k none=some (some r):=by
 induction q with
 |nil=>intro r h;cases h
 |cons p q ih=>
  intro r h
  match p,h with
  |none,h=>obtain⟨k,hk⟩:=ih h;exact⟨k+1,by simpa using hk⟩
  |some none,h=>obtain⟨k,hk⟩:=ih h;exact⟨k+1,by simpa using hk⟩
  |some (some s),h=>simp only[cD,g8]at h;rcases h with rfl|h;{exact⟨0,by simp⟩};{obtain⟨k,hk⟩:=ih h;exact⟨k+1,by simpa using hk⟩}
theorem aGd{b:Nat}:∀{q:List (Option (Option Nat))} {o r p:Nat},aQl (aQp o q) r=some p->(r,b+p)∈jS (b+o) q/\∃k,p=o+k/\q.getD k none=some (some r)
 |[],_,_,_,h=>by cases h
 |none::q,o,r,p,h=>by obtain⟨a,k,b1,b2⟩:=aGd (q:=q) (o:=o+1) (by simpa only[aQp]using h);exact⟨by simpa only[jS,m4]using a,k+1,by omega,by simpa using b2⟩
 |some none::q,o,r,p,h=>by obtain⟨a,k,b1,b2⟩:=aGd (q:=q) (o:=o+1) (by simpa only[aQp]using h);exact⟨by simpa only[jS,m4]using a,k+1,by omega,by simpa using b2⟩
 |some (some s)::q,o,r,p,h=>by simp only[aQp,aQl]at h;split at h;{rename_i e;have e:=w6 e;cases h;subst e;exact⟨by simp[jS],0,by omega,by simp⟩};{obtain⟨a,k,b1,b2⟩:=aGd (q:=q) (o:=o+1) h;exact⟨by simp only[jS,g8];exact .inr (by simpa only[m4]using a),k+1,by omega,by simpa using b2⟩}
theorem bBj{k:Nat}:∀{us vs:List (TV τ.toTS)} {o:Nat},k<us.length->o+us.length<=vs.length->(setTV vs o us).getD (o+k) (.v .unk)=us.getD k (.v .unk)
 |[],_,_,h,_=>absurd h (Nat.not_lt_zero k)
 |u::us,vs,o,h,hl=>by
  simp only[setTV];cases k with
  |zero=>
   have:∀{us vs:List (TV τ.toTS)} {o j:Nat},j<o->(setTV vs o us).getD j (.v .unk)=vs.getD j (.v .unk):=by
    intro us;induction us with
    |nil=>intro vs o j _;rfl
    |cons u us ih=>intro vs o j hj;simp only[setTV];rw[ih (by omega)];simp only[x6];rw[List.getElem?_set_ne (by omega)]
   show(setTV (vs.set o u) (o+1) us).getD o (.v .unk)=_;rw[this (show o<o+1 from y8 o),x6,qXH (by simp only[y7]at hl;omega)];rfl
  |succ k=>rw[show o+(k+1)=o+1+k by omega];rw[bBj (by simpa using h) (by rw[t7];simp only[y7]at hl;omega)];simp
theorem bWd{R:Nat}(h:bMm τ.toTS1 R E H n=some (E',H',n'))(he:EOk τ.toTS1 L E H n env)(hh:HtOk τ.toTS1 H n Hp):aIu τ L m E H n env Hp E' H' n':=by
 unfold bMm at h;have foOk_ok:∀{q:List (Option (Option Nat))},aXb R n q H=true->rM (cD q)=true/\(cD q).contains R=false/\wU (foB R (cD q)) (n::R::cD q) H=true:=λ{q} h=>by simp only[aXb,x5,u0]at h;exact⟨h.1.1,h.1.2,h.2⟩
 have lkn:∀{f:FoD} {bad:List Nat} {ys:List (τ.T f.c)},yF f bad ys E H=(E',H',n')->f.n=n->lkH H' n=some (.row f.c ys):=λ{f bad ys} h hn=>by simp only[yF,Prod.mk.injEq]at h;obtain⟨_,rfl,_⟩:=h;rw[hn,aM,if_pos rfl]
 have lkx:∀{f:FoD} {bad:List Nat} {ys:List (τ.T f.c)},yF f bad ys E H=(E',H',n')->f.n=n->∀r,r<n->r≠f.R->r∉bad->Ex1 (lkH H r) (lkH H' r):=λ{f bad ys} h hn r hr h1 h2=>by simp only[yF,Prod.mk.injEq]at h;obtain⟨_,rfl,_⟩:=h;rw[hn,aM,if_neg (by omega),xO,if_neg (by rw[g8,not_or];exact⟨h1,h2⟩),zP];exact aUd
 split at h
 · rename_i c xs i off us hr
   split at h
   · rename_i ws q hq
     obtain⟨hb,h1⟩:=aF h;obtain⟨b1,b2,b3⟩:=foOk_ok hb;split at h1
     · rename_i t ht
       have h1:=w7.inj h1;obtain⟨g1,g2⟩:=hh.all _ _ hr;simp only[tvs]at g1;simp only[aDn]at g2;obtain⟨c1,c2,c3⟩:=aKw hh hq g1
       letI:=τ.inh c
       have enc:encS τ.toTS1 c (τ.mkS c t)=setTV (encS τ.toTS1 c (getE τ.toTS c xs i)) off ws:=(by unfold encS;rw[τ.mkP];exact wJ _ _ _ ht);have hn':=lkn h1 rfl;refine aGs (S:=jS (i*τ.sz c+off) q) h1 ⟨rfl,lkx h1 rfl,λ_ c0 k hk p hp=>?_,λr p hp=>(aGd hp).1,λr p c0 k hp _ hk=>?_,λ_ _ e=>(by cases e)⟩ b3 (hh.lt hr) (λr hr=>by obtain⟨k,hk⟩:=aRi hr;exact(c3 k r hk).1) (λxs2 H2 hx hD=>?_) he hh;{refine hk p ?_;rw[hr];rw[hn']at hp;simpa only[x4,qN,t7]using hp};{obtain⟨_,k1,rfl,hk1⟩:=aGd (b:=0) hp;obtain⟨d1,d0,cc,ys,d2,d3,d4⟩:=c3 k1 r hk1;obtain⟨rfl,hl⟩:=hk.row d3;rw[List.getElem?_drop]at d2;refine⟨d2,λc' zs hz=>?_⟩;rw[hn']at hz;rcases hz with hz|⟨_,hz⟩<;>cases hz;refine⟨rfl,by rw[t7];exact g2.1,?_⟩;have ey:getE τ.toTS c (xs.set i (τ.mkS c t)) i=τ.mkS c t:=(by simp only[getE,x6];rw[qXH g2.1];rfl);rw[ey,<-hl];refine vJ (c2:=cc) (ys:=ys) ?_;rw[enc,bBj (by rw[c2];exact d0) (by rw[fT,c2];exact g2.2)];exact d4};{have hR:Hp.get1 R=some ⟨τ.tid c,aT (fl (τ.av c) xs) (i*τ.sz c+off) (trs τ.toTS1 us)⟩:=(by rw[hh.heap,hr];rfl);exact Ent.foldP (bJ c) hR rfl g2.1 (by rw[cC];exact g2.2) (by rw[τ.avE c (τ.mkS c t),enc,xU];unfold encS;rw[τ.avE]) c1 b1 b2 hx hD}
     {cases h1}
   {cases h}
 · rename_i c xs us k hr
   split at h
   · rename_i ws q hq
     obtain⟨hb,h1⟩:=aF h;obtain⟨b1,b2,b3⟩:=foOk_ok hb;split at h1
     · rename_i ys hy
       have h1:=w7.inj h1;obtain⟨g1,g2⟩:=hh.all _ _ hr;obtain⟨c1,c2,c3⟩:=aKw hh hq g1;obtain⟨y1,y2⟩:=aCx hy
       letI:=τ.inh c
       have hn':=lkn h1 rfl;refine aGs (S:=jS (fl (τ.av c) xs).length q) h1 ⟨rfl,lkx h1 rfl,λ_ c0 k0 hk p hp=>?_,λr p hp=>(by cases hp),λr p c0 k0 hp=>(by cases hp),λ_ _ e=>(by cases e)⟩ b3 (hh.lt hr) (λr hr=>by obtain⟨k,hk⟩:=aRi hr;exact(c3 k r hk).1) (λxs2 H2 hx hD=>?_) he hh;{refine hk p ?_;rw[hr];rw[hn']at hp;simpa only[x4,qN,y5,y1]using hp};{have hR:Hp.get1 R=some ⟨τ.tid c,fl (τ.av c) xs++trs τ.toTS1 us⟩:=(by rw[hh.heap,hr];rfl);exact Ent.foldA hR y2 c1 b1 b2 hx hD}
     {cases h1}
   {cases h}
 · rename_i c k z hr
   split at h
   · rename_i ws q hq
     obtain⟨hb,h1⟩:=aF h;rw[x5]at hb;obtain⟨hb,hemp⟩:=hb;have hemp:=List.isEmpty_iff.1 hemp;obtain⟨b1,b2,b3⟩:=foOk_ok hb;rw[hemp]at b3;split at h1
     · rename_i t ht
       have h1:=w7.inj h1;obtain⟨g1,g2⟩:=hh.all _ _ hr;simp only[aDn]at g2;obtain⟨c1,c2,c3⟩:=aKw hh hq g1
       letI:=τ.inh c
       have hn':=lkn h1 rfl;refine aGs (S:=[]) h1 ⟨rfl,lkx h1 rfl,λ_ c0 k0 hk p hp=>?_,λr p hp=>(by cases hp),λr p c0 k0 hp=>(by cases hp),λ_ _ e=>(by cases e)⟩ b3 (hh.lt hr) (λr hr=>by cases hr) (λxs2 H2 hx hD=>?_) he hh;{refine hk p ?_;rw[hr];rw[hn']at hp;simpa only[x4,qN,l6]using hp};{have hR:Hp.get1 R=some ⟨τ.tid c,aR (trs τ.toTS1 z) k⟩:=(by rw[hh.heap,hr];rfl);exact Ent.foldM (c:=τ.av c) (d:=τ.mkS c t) (by rw[cC,g2];exact τ.pos c) hR (by rw[bMa ht]) c1 hemp hx hD}
     {cases h1}
   {cases h}
 · rename_i e vs ts hr
   split at h
   · rename_i ws q hq
     obtain⟨hb,h1⟩:=aF h;simp only[x5]at hb;obtain⟨⟨hb,hb1⟩,hb2⟩:=hb;have hb1:=w6 hb1;have hb2:=w6 hb2;obtain⟨b1,b2,b3⟩:=foOk_ok hb;split at h1
     · rename_i ys hy
       have h1:=w7.inj h1;obtain⟨g1,g2⟩:=hh.all _ _ hr;obtain⟨c1,c2,c3⟩:=aKw hh hq g1;obtain⟨y1,y2⟩:=aCx hy
       letI:=τ.inh (τ.ow e)
       have hn':=lkn h1 rfl;refine aGs (S:=jS 0 q) h1 ⟨rfl,lkx h1 rfl,λhw=>(by cases hw),λr p hp=>(by cases hp),λr p c0 k0 hp=>(by cases hp),λe' m' hw=>?_⟩ b3 (hh.lt hr) (λr hr=>by obtain⟨k,hk⟩:=aRi hr;exact(c3 k r hk).1) (λxs2 H2 hx hD=>?_) he hh;{cases hw;refine⟨hb2.symm,λp hp=>?_⟩;rw[hn']at hp;simp only[x4,qN,y1]at hp;exact(w7.inj hp).symm};{have hR:Hp.get1 R=some ⟨e,trs τ.toTS1 vs⟩:=(by rw[hh.heap,hr];rfl);show Ent m xs2 ((n,some ⟨τ.tid (τ.ow e),fl (τ.av (τ.ow e)) ys⟩)::H2) (n+1) env Hp n;rw[hb1];exact Ent.foldL hR y2 c1 b1 b2 hx hD}
     {cases h1}
   {cases h}
 {cases h}
theorem cBz{c:Nat}{xs:List (τ.T c)}{i k:Nat}:((fl (τ.av c) xs).drop (i*τ.sz c)).take (k*τ.sz c)=fl (τ.av c) ((xs.drop i).take k):=by
 letI:=τ.inh c
 have hc:=bJ (τ:=τ) c;rw[qI hc,oI hc]
theorem bYx{j:Nat}(h:bWj τ.toTS1 j E H n=some (E',H',n'))(he:EOk τ.toTS1 L E H n env)(hh:HtOk τ.toTS1 H n Hp):aIu τ L m E H n env Hp E' H' n':=by
 unfold bWj at h;split at h
 · rename_i R c i k hp
   split at h
   · rename_i c' xs hr
     obtain⟨hb,h1⟩:=aF h;simp only[x5]at hb;obtain⟨⟨hb1,hpl⟩,hraw⟩:=hb;have hb1:=w6 hb1;subst hb1;simp only[w7.injEq,Prod.mk.injEq]at h1;obtain⟨rfl,rfl,rfl⟩:=h1;have hg:=he.good j;rw[hp]at hg;simp only[Gd]at hg;obtain⟨hRn,mm,hik,hrow⟩:=hg;have hlen:=(hrow.row hr).2;have hjL:j<L:=Nat.lt_of_not_le λhc=>by have:=he.inL j hc;rw[hp]at this;cases this
     generalize hg:(λ(_ _:Nat) (_:TV τ.toTS)=>(TV.v .unk:TV τ.toTS))=g;generalize hf:(λ(_:Nat) (_:TV τ.toTS)=>(TV.v .unk:TV τ.toTS))=f;generalize hH2:(((tnH (frB R) g H).put R none).put n (some (.row c' ((xs.drop i).take k))))=H2;have lk2:∀r,lkH H2 r=if n=r then some (.row c' ((xs.drop i).take k))else if R=r then none else lkH (tnH (frB R) g H) r:=λr=>by rw[<-hH2,aM,aM]
     have x1:∀r,r<n->r≠R->Ex1 (lkH H r) (lkH H2 r):=λr h1 h2=>by rw[lk2,if_neg (by omega),if_neg (λe=>h2 e.symm),zP];exact aUd
     have gu:Gd H2 (n+1) (TV.v .unk:TV τ.toTS):=(by simp only[Gd,plainV]);have T:Turn τ Dk (frB R) f g E H n H2 (n+1):=(by refine⟨.same,.unk,rfl,λv hv hB=>Gd.onR (l9 n) (λr hrv hrn=>x1 r hrn λe=>?_) hv,λs hv _=>?_,λr e vs ts o _ _ hv _=>?_⟩;{subst e;have:frB r v=true:=List.any_eq_true.2 ⟨r,hrv,Nat.beq_refl r⟩;rw[this]at hB;cases hB};{subst hf;exact⟨.unk _,gu⟩};{subst hg;exact⟨.unk _,gu⟩});obtain⟨e1,e2⟩:=T.frame he
     have hk:HtOk τ.toTS1 H2 (n+1) (cnH τ.toTS1 H2):=T.heap hh hraw (l9 n) (λq hq=>by
      rw[lk2,if_neg (λe=>hq (by rw[<-e];exact List.mem_cons_self ..)),if_neg (λe=>hq (by rw[<-e];exact m8 _ (u9.2 rfl)))]) (λq hq t ht=>by
      rcases g8.1 hq with rfl|hq;{rw[lk2,if_pos rfl]at ht;cases ht;exact⟨y8 _,trivial,trivial⟩}
      · rw[u9.1 hq,lk2,if_neg (by omega),if_pos rfl]at ht;cases ht) (by
      rw[<-hH2];exact wW (wW (aUh hh.tm)))
     have gw:Gd H2 (n+1) (.ws n c' k:TV τ.toTS):=(by simp only[Gd];refine⟨y8 n,λp hp=>?_⟩;rw[lk2,if_pos rfl]at hp;simp only[x4,qN,w7.injEq]at hp;rw[<-hp,List.length_take,List.length_drop,Nat.min_eq_left (by omega)]);have hel:env.length=L:=he.len;have ej:env.getD j .unk= .sref R [] (i*τ.sz c') k (τ.sz c'):=(by rcases he.env j with q|q;{rw[hp]at q;cases q};{rw[q,hp];rfl});refine⟨(cnE τ.toTS1 L (tnE (frB R) f E)).set j (.sref n [] 0 k (τ.sz c')),cnH τ.toTS1 H2,?_,⟨by rw[t7];exact e1.len,λs=>?_,λs=>?_,aWo e1.tm⟩,hk,l9 n,(aSw rfl).trans FxE.put,?_⟩
     · have hR:Hp.get1 R=some ⟨τ.tid c',fl (τ.av c') xs⟩:=by rw[hh.heap,hr];rfl
       refine Ent.cutS hR (eE (xB hpl)) ej (by omega) ?_ (Dks.of_get (by rw[wB,he.len]) e2) ?_ λr t2 hrn hr2=>?_
       · letI:=τ.inh c'
         have hc:=bJ (τ:=τ) c';rw[bE hc,<-Nat.add_mul,hlen];exact Nat.mul_le_mul_right _ (by omega)
       {rw[dV,lk2,if_pos rfl,cBz];rfl};{rw[dV,lk2,if_neg (λe=>hrn e.symm)]at hr2;split at hr2;{cases hr2};{rename_i hne;(cases e3:lkH (tnH (frB R) g H) r with|none=>rw[e3]at hr2;cases hr2|some t2'=>rw[e3]at hr2;cases hr2;obtain⟨t,a1,a2,a3,a4⟩:=T.root hh e3;exact⟨λe=>hne e.symm,trR τ.toTS1 t,by rw[hh.heap,a1];rfl,a2,Dks.of_get a3 a4⟩)}}
     {rw[nO];split;{rename_i e;subst e;right;rw[x6,qXH (by rw[wB];exact hjL)];simp only[Option.getD_some,tr]};{rename_i e;refine(e1.env s).imp id λq=>?_;rw[x6,List.getElem?_set_ne e,<-x6];exact q}};{rw[nO];split;{exact gw};{exact e1.good s}};{rw[<-hH2];exact(tnH_fx.trans kill_fx).trans FxH.putRow}
   {cases h}
 {cases h}
end
inductive Pn where
 |s (i:Nat)
 |c (i o:Nat)
 |d (r o:Nat)
def Pn.at{τ:TS}(E:TE τ):Pn->Pl
 | .s i=> .s i
 | .d a o=> .c a o
 | .c i o=>match lkE E i with
  | .v (.ptr r _ _)=> .c r o
  |_=> .s i
inductive Ste where
 |fo (p:Pn) (j:Nat)
 |uf (p:Pn) (j o:Nat)
 |fr (p:Pn) (j:Nat)
 |ct (j:Nat)
def bCk{τ:TS}(E:TE τ)(H:TH τ)(p:Pn)(j:Nat):Nat:=(bC (rX E H (p.at E))).getD j 0
def cCi(τ:TS1)(E:TE τ.toTS)(H:TH τ.toTS)(n:Nat):Ste->Option (TE τ.toTS×TH τ.toTS×Nat)
 | .fo p j=>bMm τ (bCk E H p j) E H n
 | .uf p j o=>bSi τ (p.at E) (bCk E H p j) o E H n
 | .fr p j=>bTq τ (bCk E H p j) E H n
 | .ct j=>bWj τ j E H n
def aUa(τ:TS1):List Ste->TE τ.toTS->TH τ.toTS->Nat->Option (TE τ.toTS×TH τ.toTS×Nat)
 |[],E,H,n=>some (E,H,n)
 |s::ss,E,H,n=>match cCi τ E H n s with
  |some (E,H,n)=>aUa τ ss E H n
  |none=>none
section
variable {τ : TS2} {L n n' m : Nat} {E E' : TE τ.toTS} {H H' : TH τ.toTS} {env : List AV} {Hp : Heap}
theorem bYf{s:Ste}(h:cCi τ.toTS1 E H n s=some (E',H',n'))(he:EOk τ.toTS1 L E H n env)(hh:HtOk τ.toTS1 H n Hp):aIu τ L m E H n env Hp E' H' n':=by
 (cases s with|fo p j=>exact bWd h he hh|uf p j o=>exact bYg h he hh|fr p j=>exact bXv h he hh|ct j=>exact bYx h he hh)
theorem bCi:∀{ss:List Ste} {E:TE τ.toTS} {H:TH τ.toTS} {n:Nat} {env:List AV} {Hp:Heap},aUa τ.toTS1 ss E H n=some (E',H',n')->EOk τ.toTS1 L E H n env->HtOk τ.toTS1 H n Hp->aIu τ L m E H n env Hp E' H' n'
 |[],E,H,n,env,Hp,h,he,hh=>by simp only[aUa,w7.injEq,Prod.mk.injEq]at h;obtain⟨rfl,rfl,rfl⟩:=h;exact⟨env,Hp,Ent.refl,he,hh,k9 n,FxE.refl,FxH.refl⟩
 |s::ss,E,H,n,env,Hp,h,he,hh=>by simp only[aUa]at h;split at h;{rename_i E1 H1 n1 h1;obtain⟨env1,Hp1,a1,a2,a3,a4,a5,a6⟩:=bYf (m:=m) h1 he hh;obtain⟨env2,Hp2,b1,b2,b3,b4,b5,b6⟩:=bCi h a2 a3;exact⟨env2,Hp2,b1.trans a1,b2,b3,by omega,a5.trans b5,a6.trans b6⟩};{cases h}
end
structure Tn where
 ke:List Nat
 kr:List Nat
 lv:List (Pn×JL)
def bNs{τ:TS}(H:TH τ)(offs:List (Nat×Nat))(r:Nat):List Nat:=match lkH H r with
 |some (.cells _ vs _)=>(List.range vs.length).flatMap λo=>match offs.any λq=>f9 q.1 r&&f9 q.2 o with
  |true=>[]
  |false=>bC (vs.getD o (.v .unk))
 |_=>[]
def Tn.at{τ:TS}(t:Tn)(E:TE τ)(H:TH τ):Tm:=
 let lv:=t.lv.map λq=>(q.1.at E,q.2);let offs:=lv.flatMap λq=>q.1.off;let mh:=offs.map Prod.fst
 let own:=t.lv.flatMap λq=>match q with
  |(.s i,.ro _)=>bC (lkE E i)
  |_=>[]
 let rs:=(t.ke.flatMap λi=>bC (lkE E i))++t.kr;let all:=nR [] (rs++(rs++mh).flatMap (bNs H offs))
 ⟨t.ke,all.filter λr=>!(mh.any (f9 r))&&!(own.any (f9 r)),lv⟩
inductive An where
 |o
 |s (a b:An)
 |c (a b:An)
 |k (a:An)
 |j (p:Tn) (a b:An)
 |l (p:Tn) (a:An)
 |m (M:List Nat)
 |g (ss:List Ste) (M:List Nat) (us:List Ste)
def An.M:An->List Nat
 | .m M=>M
 | .g _ M _=>M
 |_=>[]
def An.pre:An->List Ste
 | .g ss _ _=>ss
 |_=>[]
def An.post:An->List Ste
 | .g _ _ us=>us
 |_=>[]
def stp(τ:TS1){R:Type}(ss:List Ste)(E:TE τ.toTS)(H:TH τ.toTS)(n:Nat)(K:TE τ.toTS->TH τ.toTS->Nat->Option R):Option R:=match aUa τ ss E H n with
 |some (E,H,n)=>K E H n
 |none=>none
def An.fst:An->An
 | .s a _=>a
 | .c a _=>a
 | .k a=>a
 |_=> .o
def An.snd:An->An
 | .s _ b=>b
 | .c _ b=>b
 |_=> .o
noncomputable def dna (τ:TS1)(Γ:Ctx τ.toTS)(L:Nat):LCode->An->{R:Type}->TE τ.toTS->TH τ.toTS->Nat->(Out->TE τ.toTS->TH τ.toTS->Nat->Option R)->Option R
 | .skip,_,_,E,H,n,K=>K .normal E H n
 | .exit i,_,_,E,H,n,K=>K (.exit i) E H n
 | .ret,_,_,E,H,n,K=>K .ret E H n
 | .reg false ops,A,_,E,H,n,K=>stp τ A.pre E H n λE H n=>wL τ Γ L ops E H n λE H n=>stp τ A.post E H n (K .normal)
 | .reg true ops,A,_,E,H,n,K=>stp τ A.pre E H n λE H n=>dqs τ Γ L H n ops E λE=>stp τ A.post E H n (K .normal)
 | .regt head tail,A,_,E,H,n,K=>stp τ A.pre E H n λE H n=>dqs τ Γ L H n head E λE=>wL τ Γ L tail E H n λE H n=>stp τ A.post E H n (K .normal)
 | .regd head tail,A,_,E,H,n,K=>gb (aCw L (head++tail)) (stp τ A.pre E H n λE H n=>dds τ Γ L A.M head E H n none λE H n fs=>match fs with
  |none=>wL τ Γ L tail E H n λE H n=>stp τ A.post E H n (K .normal)
  |some (d,e,z)=>gb (z.all pZ) (wL τ Γ L tail (eF L E (some d) (.v (.ptr n [] 0))) (H.put n (some (.cells e (z.map .v) ((z.map (TV.v (τ:=τ.toTS))).map λ_=>H.q)))) (n+1) λE H n=>stp τ A.post E H n (K .normal)))
 | .seq a b,A,R,E,H,n,K=>match A with
  | .j t A B=>gb (Nat.blt 0 E.q&&Nat.blt 0 H.q&&(t.at E H).lv.all (λq=>jlB τ.toTS q.2)) (x4 (dna τ Γ L a A (R:=JO (JT τ.toTS ((t.at E H).lv.map Prod.snd)) R) E H n λo E' H' n'=>match o with
   | .normal=>Option.map .go (pkc L (t.at E H) E H E' H')
   | .exit i=>Option.map .out (K (.exit i) E' H' n')
   | .ret=>Option.map .out (K .ret E' H' n')) λj=>JO.run j λs=>dna τ Γ L b B (iP L (t.at E H) s E H n).1 (iP L (t.at E H) s E H n).2.1 (iP L (t.at E H) s E H n).2.2 K)
  |A=>dna τ Γ L a A.fst E H n λo E H n=>match o with
   | .normal=>dna τ Γ L b A.snd E H n K
   | .exit i=>K (.exit i) E H n
   | .ret=>K .ret E H n
 | .cond t a b,A,_,E,H,n,K=>match ovl E t with
  | .v (.bool c)=>cond c (dna τ Γ L a A.fst E H n K) (dna τ Γ L b A.snd E H n K)
  |_=>none
 | .block i a,A,_,E,H,n,K=>dna τ Γ L a A.fst E H n λo E H n=>match o with
  | .exit j=>match f9 j i with|true=>K .normal E H n|false=>K (.exit j) E H n
  | .normal=>K .normal E H n
  | .ret=>K .ret E H n
 | .loop a,A,R,E,H,n,K=>match A with
  | .l t A=>gb (Nat.blt 0 E.q&&Nat.blt 0 H.q&&(t.at E H).lv.all (λq=>jlB τ.toTS q.2)) (match pkc L (t.at E H) E H E H with
   |some s0=>x4 (iter (λs=>dna τ Γ L a A (R:=LO (JT τ.toTS ((t.at E H).lv.map Prod.snd)) R) (iP L (t.at E H) s E H n).1 (iP L (t.at E H) s E H n).2.1 (iP L (t.at E H) s E H n).2.2 λo E' H' n'=>match o with
    | .normal=>Option.map .next (pkc L (t.at E H) E H E' H')
    | .exit i=>Option.map .ret (K (.exit i) E' H' n')
    | .ret=>Option.map .ret (K .ret E' H' n')) s0) LO.val
   |none=>none)
  |_=>none
 |_,_,_,_,_,_,_=>none
def aLx:List (Pl×JL)->Nat
 |[]=>0
 |(_,.ro _)::l=>aLx l+1
 |_::l=>aLx l
section
variable {τ : TS2} {P : Program} {Γ : Ctx τ.toTS} {L m : Nat}
theorem bCj:∀(l:List (Pl×JL)) (x:JT τ.toTS (l.map Prod.snd)) {E:TE τ.toTS} {H:TH τ.toTS} {n:Nat},(rH L l x E H n).2.2=n+aLx l
 |[],_,E,H,n=>rfl
 |[(p,a)],x,E,H,n=>by cases a<;>rfl
 |(p,a)::b::l,x,E,H,n=>by have h:=bCj (b::l) x.2 (E:=(rY L p (cK a x.1 H n).1 E (cK a x.1 H n).2.1).1) (H:=(rY L p (cK a x.1 H n).1 E (cK a x.1 H n).2.1).2) (n:=(cK a x.1 H n).2.2);refine Eq.trans h ?_;cases a<;>simp only[cK,aLx]<;>omega
theorem map_some{α β:Type}{f:α->β}{x:Option α}{r:β}(h:Option.map f x=some r):∃y,x=some y/\r=f y:=by
 (cases x with|none=>cases h|some y=>cases h;exact⟨y,rfl,rfl⟩)
theorem wC{R:Type}{r:R}{ss:List Ste}{E:TE τ.toTS}{H:TH τ.toTS}{n:Nat}{env:List AV}{Hp:Heap}{K:TE τ.toTS->TH τ.toTS->Nat->Option R}(h:stp τ.toTS1 ss E H n K=some r)(he:EOk τ.toTS1 L E H n env)(hh:HtOk τ.toTS1 H n Hp):
 ∃E' H' n' env' Hp',K E' H' n'=some r/\Ent m env' Hp' n' env Hp n/\EOk τ.toTS1 L E' H' n' env'/\HtOk τ.toTS1 H' n' Hp'/\n<=n'/\FxE E E'/\FxH H H':=by
 unfold stp at h;split at h;{rename_i E' H' n' hs;obtain⟨env',Hp',a⟩:=bCi (m:=m) hs he hh;exact⟨E',H',n',env',Hp',h,a⟩};{cases h}
def Cl(m:Nat)(Q:Post):Post:=λo env H n=>∃env2 H2 n2,Ent m env2 H2 n2 env H n/\Q o env2 H2 n2
theorem Aw.cl{c:LCode}{Q:Post}{env:List AV}{H:Heap}{n:Nat}(h:Aw P m c (Cl m Q) env H n):Aw P m c Q env H n:=by intro cc hc w0 Φ β a w hm hR;refine wp_mono (h cc hc w0 Φ β a w hm hR) λe a2 w2 h3=>?_;obtain⟨o,env1,H1,n1,Φ1,β1,h1,h2,h3,h4,h5,h6⟩:=h3;obtain⟨env2,H2,n2,e1,e2⟩:=h2;obtain⟨Φ2,β2,k1,k2,k3,k4⟩:=h6.ent h3 e1;exact⟨o,env2,H2,n2,Φ2,β2,h1,e2,k2,λi hi=>(k1 i hi).trans (h4 i hi),h5.trans k3,k4⟩
theorem uB(hΓ:sM τ.toTS1 P Γ):∀{c:LCode} {A:An} {R:Type} {r:R} {E:TE τ.toTS} {H:TH τ.toTS} {n:Nat} {env:List AV} {Hp:Heap} {K:Out->TE τ.toTS->TH τ.toTS->Nat->Option R} {Q:Post},dna τ.toTS1 Γ L c A E H n K=some r->EOk τ.toTS1 L E H n env->HtOk τ.toTS1 H n Hp->m<=n->
 (∀o E' H' n' env' Hp',K o E' H' n'=some r->EOk τ.toTS1 L E' H' n' env'->n<=n'->FxE E E'->FxH H H'->HtOk τ.toTS1 H' n' Hp'->Q o env' Hp' n')->Aw P m c Q env Hp n
 | .skip,_,_,_,E,H,n,env,Hp,K,Q,h,he,hh,hm,hK=>Aw.skip (hK _ E H n env Hp h he (k9 n) FxE.refl FxH.refl hh)
 | .exit i,_,_,_,E,H,n,env,Hp,K,Q,h,he,hh,hm,hK=>Aw.exit (hK _ E H n env Hp h he (k9 n) FxE.refl FxH.refl hh)
 | .ret,_,_,_,E,H,n,env,Hp,K,Q,h,he,hh,hm,hK=>Aw.ret (hK _ E H n env Hp h he (k9 n) FxE.refl FxH.refl hh)
 | .reg false ops,A,_,_,E,H,n,env,Hp,K,Q,h,he,hh,hm,hK=>by unfold dna at h;obtain⟨E0,H0,n0,env0,Hp0,h,p1,p2,p3,p4,p5,p6⟩:=wC (m:=m) h he hh;refine Aw.ent p1 (Aw.cl (Aw.reg (aBz hΓ h p2 p3 λE1 H1 n1 env1 Hp1 k1 k2 k3 k4 k5 k6=>?_)));obtain⟨E2,H2,n2,env2,Hp2,k1,q1,q2,q3,q4,q5,q6⟩:=wC (m:=m) k1 k2 k6;exact⟨env2,Hp2,n2,q1,hK _ E2 H2 n2 env2 Hp2 k1 q2 (by omega) (p5.trans (k4.trans q5)) (p6.trans (k5.trans q6)) q3⟩
 | .reg true ops,A,_,_,E,H,n,env,Hp,K,Q,h,he,hh,hm,hK=>by unfold dna at h;obtain⟨E0,H0,n0,env0,Hp0,h,p1,p2,p3,p4,p5,p6⟩:=wC (m:=m) h he hh;refine Aw.ent p1 (Aw.cl (Aw.regq (aVm hΓ p3 h p2 λE1 env1 k1 k2 k3=>?_)));obtain⟨E2,H2,n2,env2,Hp2,k1,q1,q2,q3,q4,q5,q6⟩:=wC (m:=m) k1 k2 p3;exact⟨env2,Hp2,n2,q1,hK _ E2 H2 n2 env2 Hp2 k1 q2 (by omega) (p5.trans (k3.trans q5)) (p6.trans q6) q3⟩
 | .regt head tail,A,_,_,E,H,n,env,Hp,K,Q,h,he,hh,hm,hK=>by unfold dna at h;obtain⟨E0,H0,n0,env0,Hp0,h,p1,p2,p3,p4,p5,p6⟩:=wC (m:=m) h he hh;refine Aw.ent p1 (Aw.cl (Aw.regt (aVm hΓ p3 h p2 λE1 env1 k1 k2 k3=>aBz hΓ k1 k2 p3 λE' H' n' env' Hp' g1 g2 g3 g4 g5 g6=>?_)));obtain⟨E2,H2,n2,env2,Hp2,g1,q1,q2,q3,q4,q5,q6⟩:=wC (m:=m) g1 g2 g6;exact⟨env2,Hp2,n2,q1,hK _ E2 H2 n2 env2 Hp2 g1 q2 (by omega) (p5.trans (k3.trans (g4.trans q5))) (p6.trans (g5.trans q6)) q3⟩
 | .regd head tail,A,_,_,E,H,n,env,Hp,K,Q,h,he,hh,hm,hK=>by unfold dna at h;obtain⟨hb,h⟩:=aF h;obtain⟨E0,H0,n0,env0,Hp0,h,p1,p2,p3,p4,p5,p6⟩:=wC (m:=m) h he hh;refine Aw.ent p1 (Aw.cl (Aw.regd (by rw[p2.len];exact hb) (bAq hΓ (hs:=[(Hp0,n0)]) (ls:=[]) h p2 p3 (λh0 hm=>by simp only[u9]at hm;subst hm;exact⟨k9 _,Agr.refl⟩) (λp hp=>by cases hp) λE1 H1 n1 env1 Hp1 fs k1 k2 k3 k4 k5 k6=>?_)));(cases fs with|none=>refine aBz hΓ k1 k2 k6 λE' H' n' env' Hp' g1 g2 g3 g4 g5 g6=>?_;obtain⟨E2,H2,n2,env2,Hp2,g1,q1,q2,q3,q4,q5,q6⟩:=wC (m:=m) g1 g2 g6;exact⟨env2,Hp2,n2,q1,hK _ E2 H2 n2 env2 Hp2 g1 q2 (by omega) (p5.trans (k4.trans (g4.trans q5))) (p6.trans (k5.trans (g5.trans q6))) q3⟩|some p=>obtain⟨d,e,z⟩:=p;obtain⟨hz,k1⟩:=aF k1;obtain⟨z1,z2⟩:=wA (τ:=τ) (H:=H1) (n:=n1) hz;obtain⟨f1,f2⟩:=k6.fresh (t:= .cells e (z.map .v) ((z.map (TV.v (τ:=τ.toTS))).map λ_=>H1.q)) ⟨z2,List.length_map _⟩;simp only[trR,z1]at f1;refine aBz hΓ k1 ((k2.ext (l9 n1) f2).put (d:=some d) (.inr (by simp only[tr])) (by simp only[Gd,plainV];exact⟨by omega,trivial⟩)) f1 λE' H' n' env' Hp' g1 g2 g3 g4 g5 g6=>?_;obtain⟨E2,H2,n2,env2,Hp2,g1,q1,q2,q3,q4,q5,q6⟩:=wC (m:=m) g1 g2 g6;exact⟨env2,Hp2,n2,q1,hK _ E2 H2 n2 env2 Hp2 g1 q2 (by omega) (p5.trans ((k4.trans vR).trans (g4.trans q5))) (p6.trans ((k5.trans FxH.putNew).trans (g5.trans q6))) q3⟩)
 | .rega _,_,_,_,E,H,n,env,Hp,K,Q,h,he,hh,hm,hK=>by cases h
 | .loop a,A,R,r,E,H,n,env,Hp,K,Q,h,he,hh,hm,hK=>by
  unfold dna at h;split at h
  · rename_i t A'
    obtain⟨hq,h⟩:=aF h;rw[x5]at hq;obtain⟨hq,hjl⟩:=hq;simp only[x5,Nat.blt_eq]at hq;split at h
    · rename_i s0 hs0
      obtain⟨lo,hi,hv⟩:=bind_some h;have hlo:lo= .ret r:=(by(cases lo with|ret x=>simp only[LO.val]at hv;cases hv;rfl|next _=>cases hv|brk _=>cases hv));subst hlo;have hN:∀s,(iP L (t.at E H) s E H n).2.2=n+aLx (t.at E H).lv:=λs=>bCj (t.at E H).lv s;refine Aw.iter (λs=>cnE τ.toTS1 L (iP L (t.at E H) s E H n).1) (λs=>cnH τ.toTS1 (iP L (t.at E H) s E H n).2.1) (n+aLx (t.at E H).lv) hi ?_ ?_;{have:=bEx (m:=m) hs0 he hh he hh FxE.refl FxH.refl hm;rwa[hN]at this}
      · intro s o Q' hst hNx hX hR
        obtain⟨u1,u2,u3,u4⟩:=bHb (p:=t.at E H) (x:=s) hjl he hh hq.1 hq.2;have key:=uB hΓ (c:=a) (Q:=Q') hst u1.e u1.h (by omega) λo' E' H' n' env' Hp' k1 k2 k3 k4 k5 k6=>by(cases o' with|normal=>obtain⟨s2,g1,g2⟩:=map_some k1;have:=bEx (m:=m) g1 he hh k2 k6 (u3.trans k4) (u4.trans k5) hm;rw[hN]at this;exact hNx s2 env' Hp' n' g2 this|exit i=>obtain⟨r',g1,g2⟩:=map_some k1;exact hX r' i env' Hp' n' g2 λhout=>by cases hout;exact hK _ E' H' n' env' Hp' g1 k2 (by omega) (u3.trans k4) (u4.trans k5) k6|ret=>obtain⟨r',g1,g2⟩:=map_some k1;exact hR r' env' Hp' n' g2 λhout=>by cases hout;exact hK _ E' H' n' env' Hp' g1 k2 (by omega) (u3.trans k4) (u4.trans k5) k6)
        rwa[hN]at key
    {cases h}
  {cases h}
 | .seq a b,A,R,r,E,H,n,env,Hp,K,Q,h,he,hh,hm,hK=>by unfold dna at h;split at h;{rename_i t A' B;obtain⟨hq,h⟩:=aF h;rw[x5]at hq;obtain⟨hq,hjl⟩:=hq;simp only[x5,Nat.blt_eq]at hq;obtain⟨j,hj,hv⟩:=bind_some h;have hN:∀s,(iP L (t.at E H) s E H n).2.2=n+aLx (t.at E H).lv:=λs=>bCj (t.at E H).lv s;refine Aw.join (S:=JT τ.toTS ((t.at E H).lv.map Prod.snd)) (λs=>cnE τ.toTS1 L (iP L (t.at E H) s E H n).1) (λs=>cnH τ.toTS1 (iP L (t.at E H) s E H n).2.1) (n+aLx (t.at E H).lv) (λs=>dna τ.toTS1 Γ L b B (iP L (t.at E H) s E H n).1 (iP L (t.at E H) s E H n).2.1 (iP L (t.at E H) s E H n).2.2 K=some r) (λs hs=>?_) λQ' hNx hR hX=>?_;{obtain⟨u1,u2,u3,u4⟩:=bHb (p:=t.at E H) (x:=s) hjl he hh hq.1 hq.2;have key:=uB hΓ (c:=b) (Q:=Q) hs u1.e u1.h (by omega) λo' E' H' n' env' Hp' k1 k2 k3 k4 k5 k6=>hK o' E' H' n' env' Hp' k1 k2 (by omega) (u3.trans k4) (u4.trans k5) k6;rwa[hN]at key};{refine uB hΓ (c:=a) (Q:=Q') hj he hh hm λo' E' H' n' env' Hp' k1 k2 k3 k4 k5 k6=>?_;(cases o' with|normal=>obtain⟨s,g1,g2⟩:=map_some k1;subst g2;have:=bEx (m:=m) g1 he hh k2 k6 k4 k5 hm;rw[hN]at this;exact hNx s env' Hp' n' hv this|exit i=>obtain⟨r',g1,g2⟩:=map_some k1;subst g2;simp only[JO.run]at hv;cases hv;exact hX i env' Hp' n' (hK _ E' H' n' env' Hp' g1 k2 k3 k4 k5 k6)|ret=>obtain⟨r',g1,g2⟩:=map_some k1;subst g2;simp only[JO.run]at hv;cases hv;exact hR env' Hp' n' (hK _ E' H' n' env' Hp' g1 k2 k3 k4 k5 k6))}};{refine Aw.seq (uB hΓ (c:=a) h he hh hm λo E' H' n' env' Hp' k1 k2 k3 k4 k5 k6=>?_);(cases o with|normal=>exact uB hΓ (c:=b) k1 k2 k6 (by omega) λo E2 H2 n2 env2 Hp2 g1 g2 g3 g4 g5 g6=>hK o E2 H2 n2 env2 Hp2 g1 g2 (by omega) (k4.trans g4) (k5.trans g5) g6|exit i=>exact hK _ E' H' n' env' Hp' k1 k2 k3 k4 k5 k6|ret=>exact hK _ E' H' n' env' Hp' k1 k2 k3 k4 k5 k6)}
 | .cond t a b,A,_,r,E,H,n,env,Hp,K,Q,h,he,hh,hm,hK=>by unfold dna at h;split at h;{rename_i c ht;have h1:t.val env= .bool c:=(by(cases t with|t i=>simp only[ovl]at ht;have:=he.env i;rw[ht]at this;exact this.elim (λe=>by cases e) (λe=>by simpa only[tr,Opd.val]using e)|c v=>simp only[ovl]at ht;cases ht;rfl));refine Aw.cond h1 (λe=>?_) (λe=>?_);{subst e;exact uB hΓ (c:=a) h he hh hm hK};{subst e;exact uB hΓ (c:=b) h he hh hm hK}};{cases h}
 | .block i a,A,_,r,E,H,n,env,Hp,K,Q,h,he,hh,hm,hK=>by unfold dna at h;refine Aw.block (uB hΓ (c:=a) h he hh hm λo E' H' n' env' Hp' k1 k2 k3 k4 k5 k6=>?_);(cases o with|normal=>exact bMy (hK _ E' H' n' env' Hp' k1 k2 k3 k4 k5 k6)|ret=>exact cEr (hK _ E' H' n' env' Hp' k1 k2 k3 k4 k5 k6)|exit j=>simp only[]at k1;split at k1;{rename_i hb;have:=w6 hb;subst this;exact bWr (hK _ E' H' n' env' Hp' k1 k2 k3 k4 k5 k6)};{rename_i hb;exact cEv (λe=>by subst e;rw[Nat.beq_refl]at hb;cases hb) (hK _ E' H' n' env' Hp' k1 k2 k3 k4 k5 k6)})
end
def aTo{τ:TS}(E:TE τ)(H:TH τ):LRes->Option (TV τ)
 | .tmp t=>some (lkE E t)
 | .cell t ag m=>match lkE E t with
  | .v (.ptr r [] o)=>match lkH H r with
   |some (.cells _ vs _)=>gb (Nat.ble (o+m) vs.length&&agB ag m) (some (oki o m vs ag))
   |_=>none
  |_=>none
def rdQ(τ:TS1)(E:TE τ.toTS)(H:TH τ.toTS)(p:PK)(l:LRes):Option (p.T τ.toTS×List (Option Nat)):=match aTo E H l with
 |some v=>rdP τ H p v
 |none=>none
def aXl(τ:TS1)(E:TE τ.toTS)(H:TH τ.toTS):(ps:List PK)->List LRes->Option (TupP τ.toTS ps×List (Option Nat))
 |[],[]=>some ((),[])
 |[p],[l]=>rdQ τ E H p l
 |p::q::ps,l::ls=>match rdQ τ E H p l with
  |some (x,rs)=>match aXl τ E H (q::ps) ls with
   |some (y,us)=>some ((x,y),rs++us)
   |none=>none
  |none=>none
 |_,_=>none
def rdR(τ:TS1)(E:TE τ.toTS)(H:TH τ.toTS):(s:RK)->List LRes->Option (s.T τ.toTS×List (Option Nat))
 | .one p,[l]=>rdQ τ E H p l
 | .two p q,[l,k]=>match rdQ τ E H p l with
  |some (x,rs)=>match rdQ τ E H q k with
   |some (y,us)=>some ((x,y),rs++us)
   |none=>none
  |none=>none
 | .three p q s,[l,k,j]=>match rdQ τ E H p l with
  |some (x,rs)=>match rdQ τ E H q k with
   |some (y,us)=>match rdQ τ E H s j with
    |some (z,ws)=>some ((x,y,z),rs++us++ws)
    |none=>none
   |none=>none
  |none=>none
 | .tup p q ps,ls=>aXl τ E H (p::q::ps) ls
 |_,_=>none
def fin(τ:TS1)(E:TE τ.toTS)(H:TH τ.toTS)(s:RK)(ls:List LRes):Option (s.T τ.toTS):=match rdR τ E H s ls with
 |some (x,rs)=>gb (dH rs) (some x)
 |none=>none
def rdK(τ:TS1)(H:TH τ.toTS){R:Type}:(qs:List QK)->Nat->R->Option (KT τ.toTS qs R)
 |[],_,x=>some x
 | .pt t::qs,j,x=>match lkH H j with
  |some (.cells e vs _)=>gb (f9 e t) (match unL (τ.lf t) vs with
   |some u=>match rdK τ H qs (j+1) x with
    |some z=>some (τ.mkS t u,z)
    |none=>none
   |none=>none)
  |_=>none
 | .v _::qs,j,x=>rdK τ H qs j x
 | .ow _::qs,j,x=>rdK τ H qs (j+1) x
 | .os t::qs,j,x=>rdK τ H qs (j+aTq (τ.lf t)) x
def kpN(τ:TS1):List QK->Nat->List Nat
 |[],_=>[]
 | .pt t::qs,j=>j::kpN τ qs (j+1)
 | .v _::qs,j=>kpN τ qs j
 | .ow _::qs,j=>kpN τ qs (j+1)
 | .os t::qs,j=>kpN τ qs (j+aTq (τ.lf t))
def bLz(τ:TS1)(m:Nat)(E:TE τ.toTS)(H:TH τ.toTS)(qs:List QK)(s:RK)(ls:List LRes):Option (KT τ.toTS qs (s.T τ.toTS)):=match rdR τ E H s ls with
 |some (x,rs)=>gb (aGl (kpN τ qs 0) rs&&(kpN τ qs 0).all (λr=>Nat.blt r m)) (rdK τ H qs 0 x)
 |none=>none
def bP(τ:TS):PK->Bool
 | .i _=>true
 | .b=>true
 | .rb _=>true
 | .sb c=>τ.pl c
 |_=>false
def bR(τ:TS):RK->Bool
 | .one p=>bP τ p
 | .two p q=>bP τ p&&bP τ q
 | .three p q s=>bP τ p&&bP τ q&&bP τ s
 | .tup p q ps=>(p::q::ps).all (bP τ)
def rdB(τ:TS1)(E:TE τ.toTS)(H:TH τ.toTS)(p:PK)(l:LRes):Option (p.T τ.toTS):=match aTo E H l with
 |some v=>bMj τ H p v
 |none=>none
def bEe(τ:TS1)(E:TE τ.toTS)(H:TH τ.toTS):(ps:List PK)->List LRes->Option (TupP τ.toTS ps)
 |[],[]=>some ()
 |[p],[l]=>rdB τ E H p l
 |p::q::ps,l::ls=>match rdB τ E H p l with
  |some x=>match bEe τ E H (q::ps) ls with
   |some y=>some (x,y)
   |none=>none
  |none=>none
 |_,_=>none
def bRw(τ:TS1)(E:TE τ.toTS)(H:TH τ.toTS):(s:RK)->List LRes->Option (s.T τ.toTS)
 | .one p,[l]=>rdB τ E H p l
 | .two p q,[l,k]=>match rdB τ E H p l with
  |some x=>match rdB τ E H q k with
   |some y=>some (x,y)
   |none=>none
  |none=>none
 | .three p q s,[l,k,j]=>match rdB τ E H p l with
  |some x=>match rdB τ E H q k with
   |some y=>match rdB τ E H s j with
    |some z=>some (x,y,z)
    |none=>none
   |none=>none
  |none=>none
 | .tup p q ps,ls=>bEe τ E H (p::q::ps) ls
 |_,_=>none
def bLe(τ:TS1)(E:TE τ.toTS)(H:TH τ.toTS)(s:RK)(ls:List LRes):Option (s.T τ.toTS):=match bR τ.toTS s with
 |true=>bRw τ E H s ls
 |false=>fin τ E H s ls
section
variable {τ : TS2} {P : Program} {Γ : Ctx τ.toTS} {L n n2 n' : Nat} {E' : TE τ.toTS} {H H' : TH τ.toTS} {ρ : Nat → Option Nat} {Hp' : Heap} {env' : List AV}
theorem bDj{l:LRes}{v:TV τ.toTS}(h:aTo E' H' l=some v)(he:EOk τ.toTS1 L E' H' n' env')(hh:HtOk τ.toTS1 H' n' Hp')(hv:v≠ .v .unk):zS env' Hp' l=some (tr τ.toTS1 v)/\Gd H' n' v:=by
 (cases l with|tmp t=>simp only[aTo]at h;cases h;exact⟨by simp only[zS];rw[(he.env t).resolve_left hv],he.good t⟩|cell t ag m=>simp only[aTo]at h;split at h;{rename_i r o ht;split at h;{rename_i e vs ts hr;obtain⟨hb,h⟩:=aF h;cases h;simp only[x5,Nat.ble_eq]at hb;have h1:=he.env t;rw[ht]at h1;have e1:env'.getD t .unk= .ptr r [] o:=h1.elim (λe=>by cases e) (λe=>by simpa only[tr]using e);have hc:=(hh.cells _ _ _ _ hr).1;obtain⟨g1,g2⟩:=aLt hb.1 hb.2 hc;refine⟨?_,g2⟩;simp only[zS,e1,dS hh hr,trR,cC];rw[if_pos ⟨hb.1,vU hb.2⟩,iF hc.noOwn,g1]};{cases h}};{cases h})
theorem cEp{p:PK}{u:TV τ.toTS}{x:p.T τ.toTS}{rs:List (Option Nat)}(h:rdP τ.toTS1 H' p u=some (x,rs)):u≠ .v .unk:=λe=>by subst e;cases p<;>cases h
theorem yV{p:PK}{l:LRes}{x:p.T τ.toTS}{rs:List (Option Nat)}(h:rdQ τ.toTS1 E' H' p l=some (x,rs))(he:EOk τ.toTS1 L E' H' n' env')(hh:HtOk τ.toTS1 H' n' Hp')(hs:Sr τ ρ n2 H H')(hρ:∀k,k<rs.length->ρ (n+k)=rs.getD k none)(hn:n+rs.length<=n2):
 ∃u w H1,zS env' Hp' l=some u/\mM τ.toTS1 p x H n=(w,H1,n+rs.length)/\Ren ρ n2 (tr τ.toTS1 w) u/\Sr τ ρ n2 H1 H':=by
 unfold rdQ at h;split at h;{rename_i v hv;obtain⟨a,b⟩:=bDj hv he hh (cEp h);obtain⟨w,H1,e1,e2,e3⟩:=bAx h b hs hρ hn;exact⟨_,w,H1,a,e1,e2,e3⟩};{cases h}
theorem Sr.ent{m:Nat}{w:TV τ.toTS}{u:AV}{rs:List (Option Nat)}{ks:List Nat}{Hr:Heap}(h:Sr τ (rS m rs) n2 H H')(hh:HtOk τ.toTS1 H' n' Hp')(hc:∀r,Hr.get1 r=(lkH H r).map (trR τ.toTS1))(hn:aGl ks rs=true)(hk:∀r,r<m->(lkH H r).isSome=true->r∈ks)(hm:m<=n2)(hr:Ren (rS m rs) n2 (tr τ.toTS1 w) u):Ent m [tr τ.toTS1 w] Hr n2 [u] Hp' n':=by
 simp only[aGl,x5,w5]at hn;have live:∀r,(Hr.get1 r).isSome=true->(lkH H r).isSome=true:=λr h=>by rw[hc]at h;cases e:lkH H r<;>rw[e]at h<;>first|(cases h;done)|rfl
 have no:∀r i j,(lkH H r).isSome=true->r<m->m<=i->rS m rs r=some j->rS m rs i=some j->False:=λr i j h1 h2 h3 e1 e2=>by simp only[rS]at e1 e2;rw[if_pos h2]at e1;rw[if_neg (by omega)]at e2;cases e1;have hx:some r∈rs:=(by rw[x6]at e2;(cases e3:rs[i-m]? with|none=>rw[e3]at e2;cases e2|some z=>rw[e3]at e2;exact List.mem_of_getElem? (by rw[e3];exact congrArg some e2)));have:=hn.2 _ hx;simp only[u0,List.any_eq_false]at this;exact this r (hk r h2 h1) (by simp)
 refine Ent.sub (rS m rs) (λi hi=>if_pos hi) hm (jI hr) ⟨λr t2 ht=>?_,λr r' j l1 l2 e1 e2=>?_⟩;{rw[hc]at ht;(cases e:lkH H r with|none=>rw[e]at ht;cases ht|some t=>rw[e]at ht;cases ht;obtain⟨k1,k2,k3⟩:=h.row r t e;exact⟨k1,k3.imp id λ⟨j,t',a,b,c⟩=>⟨j,trR τ.toTS1 t',a,by rw[hh.heap,b];rfl,by rw[c],by rw[c];exact aL k2⟩⟩)};{by_cases h1:r<m<;>by_cases h2:r'<m;{simp only[rS]at e1 e2;rw[if_pos h1]at e1;rw[if_pos h2]at e2;cases e1;exact(w7.inj e2).symm};{exact(no r r' j (live r l1) h1 (by omega) e1 e2).elim};{exact(no r' r j (live r' l2) h2 (by omega) e2 e1).elim};{simp only[rS]at e1 e2;rw[if_neg h1]at e1;rw[if_neg h2]at e2;have:=zU hn.1 e1 e2;omega}}
theorem bJf:∀{ps:List PK} {ls:List LRes} {x:TupP τ.toTS ps} {rs:List (Option Nat)} {n:Nat} {H:TH τ.toTS},aXl τ.toTS1 E' H' ps ls=some (x,rs)->EOk τ.toTS1 L E' H' n' env'->HtOk τ.toTS1 H' n' Hp'->Sr τ ρ n2 H H'->(∀k,k<rs.length->ρ (n+k)=rs.getD k none)->n+rs.length<=n2->
 ∃us ws H1,fJ env' Hp' ls=some us/\us.length=ps.length/\wT τ.toTS1 ps x H n=(ws,H1,n+rs.length)/\Rens ρ n2 (trs τ.toTS1 ws) us/\Sr τ ρ n2 H1 H'
 |[],[],x,rs,n,H,h,he,hh,hs,hρ,hn=>by simp only[aXl]at h;cases h;exact⟨[],[],H,rfl,rfl,rfl,iA,hs⟩
 |[],_::_,x,rs,n,H,h,_,_,_,_,_=>by cases h
 |[p],[],x,rs,n,H,h,_,_,_,_,_=>by cases h
 |[p],[l],x,rs,n,H,h,he,hh,hs,hρ,hn=>by simp only[aXl]at h;obtain⟨u,w,H2,e1,e2,e3,e4⟩:=yV h he hh hs hρ hn;exact⟨[u],[w],H2,by simp only[fJ,e1],rfl,by simp only[wT,e2],by simp only[trs];exact aW e3 iA,e4⟩
 |[p],_::_::_,x,rs,n,H,h,_,_,_,_,_=>by cases h
 |p::q::ps,[],x,rs,n,H,h,_,_,_,_,_=>by cases h
 |p::q::ps,l::ls,x,rs,n,H,h,he,hh,hs,hρ,hn=>by simp only[aXl]at h;split at h;{rename_i y rs hy;split at h;{rename_i z us hz;cases h;rw[y5]at hn;obtain⟨u,w,H2,e1,e2,e3,e4⟩:=yV (n:=n) hy he hh hs (λk hk=>by rw[hρ k (by rw[y5];omega)];simp only[x6];rw[e7 hk]) (by omega);obtain⟨u2,w2,H3,f1,f0,f2,f3,f4⟩:=bJf (n:=n+rs.length) hz he hh e4 (λk hk=>by rw[m4,hρ (rs.length+k) (by rw[y5];omega)];simp only[x6];rw[d9 (by omega)];congr 2;omega) (by omega);exact⟨u::u2,w::w2,H3,by simp only[fJ,e1,f1],by simp only[y7,f0],by simp only[wT,e2,f2,y5,m4],by simp only[trs];exact aW e3 f3,f4⟩};{cases h}};{cases h}
theorem aTa{ls:List LRes}{us:List AV}{k:Nat}(h:fJ env' Hp' ls=some us)(hl:us.length=k+2):iD env' Hp' ls=some (.tup us):=by
 unfold iD;rw[h]
 match us,hl with
 |a::b::l,_=>rfl
theorem bNe{s:RK}{ls:List LRes}{x:s.T τ.toTS}{rs:List (Option Nat)}(h:rdR τ.toTS1 E' H' s ls=some (x,rs))(he:EOk τ.toTS1 L E' H' n' env')(hh:HtOk τ.toTS1 H' n' Hp')(hs:Sr τ ρ n2 H H')(hρ:∀k,k<rs.length->ρ (n+k)=rs.getD k none)(hn:n+rs.length<=n2):
 ∃u w H1,iD env' Hp' ls=some u/\iZ τ.toTS1 s x H n=(w,H1,n+rs.length)/\Ren ρ n2 (tr τ.toTS1 w) u/\Sr τ ρ n2 H1 H':=by
 unfold rdR at h;split at h;{rename_i p l;obtain⟨u,w,H2,e1,e2,e3,e4⟩:=yV h he hh hs hρ hn;exact⟨u,w,H2,by simp only[iD,fJ,e1],by simp only[iZ,e2],e3,e4⟩};{rename_i p q l k;split at h;{rename_i y rs hy;split at h;{rename_i z us hz;cases h;rw[y5]at hn;obtain⟨u,w,H2,e1,e2,e3,e4⟩:=yV (n:=n) hy he hh hs (λk hk=>by rw[hρ k (by rw[y5];omega)];simp only[x6];rw[e7 hk]) (by omega);obtain⟨u2,w2,H3,f1,f2,f3,f4⟩:=yV (n:=n+rs.length) hz he hh e4 (λk hk=>by rw[m4,hρ (rs.length+k) (by rw[y5];omega)];simp only[x6];rw[d9 (by omega)];congr 2;omega) (by omega);refine⟨.tup [u,u2],.tup [w,w2],H3,by simp only[iD,fJ,e1,f1],by simp only[iZ,e2,f2,y5,m4],?_,f4⟩;simp only[tr,trs];exact fX (aW e3 (aW f3 iA))};{cases h}};{cases h}};{rename_i p q s l k j;split at h;{rename_i y rs hy;split at h;{rename_i z us hz;split at h;{rename_i z3 ws hz3;cases h;simp only[y5]at hn;obtain⟨u,w,H2,e1,e2,e3,e4⟩:=yV (n:=n) hy he hh hs (λk hk=>by rw[hρ k (by simp only[y5];omega)];simp only[x6];rw[List.append_assoc,e7 hk]) (by omega);obtain⟨u2,w2,H3,f1,f2,f3,f4⟩:=yV (n:=n+rs.length) hz he hh e4 (λk hk=>by rw[m4,hρ (rs.length+k) (by simp only[y5];omega)];simp only[x6];rw[List.append_assoc,d9 (by omega),e7 (by omega),Nat.add_sub_cancel_left]) (by omega);obtain⟨u3,w3,H4,g1,g2,g3,g4⟩:=yV (n:=n+rs.length+us.length) hz3 he hh f4 (λk hk=>by rw[show n+rs.length+us.length+k=n+(rs.length+us.length+k) by omega,hρ (rs.length+us.length+k) (by simp only[y5];omega)];simp only[x6];rw[d9 (by simp only[y5];omega)];congr 2;simp only[y5];omega) (by omega);refine⟨.tup [u,u2,u3],.tup [w,w2,w3],H4,by simp only[iD,fJ,e1,f1,g1],by simp only[iZ,e2,f2,g2];simp only[y5,m4],?_,g4⟩;simp only[tr,trs];exact fX (aW e3 (aW f3 (aW g3 iA)))};{cases h}};{cases h}};{cases h}};{obtain⟨us,ws,H1,e1,e0,e2,e3,e4⟩:=bJf h he hh hs hρ hn;exact⟨.tup us,.tup ws,H1,aTa e1 e0,by simp only[iZ,e2],by simp only[tr];exact fX e3,e4⟩};{cases h}
theorem cCd{s:RK}{ls:List LRes}{x:s.T τ.toTS}(hw:wfR τ.toTS s=true)(h:fin τ.toTS1 E' H' s ls=some x)(he:EOk τ.toTS1 L E' H' n' env')(hh:HtOk τ.toTS1 H' n' Hp'):
 ∃r',iD env' Hp' ls=some r'/\Ent 0 [(bM 0 (avR τ.toTS1 s x)).1] (bM 0 (avR τ.toTS1 s x)).2.1 (bM 0 (avR τ.toTS1 s x)).2.2 [r'] Hp' n':=by
 obtain⟨v,H1,n1,Hr,a1,a2,a3,a4,a5,a6,a7⟩:=aCc (n:=0) s x hw (aGo (τ:=τ));rw[a2];rw[r8]at a6;unfold fin at h;split at h;{rename_i y rs hy;obtain⟨hb,h1⟩:=aF h;cases h1;obtain⟨u,w,H2,e1,e2,e3,e4⟩:=bNe (ρ:=rS 0 rs) (n:=0) (n2:=0+rs.length) (H:=TH.emp) hy he hh ⟨λr t hr=>by cases hr⟩ (λk _=>by simp only[rS];rw[if_neg (Nat.not_lt_zero _)];congr 1;omega) (k9 _);rw[a1]at e2;simp only[Prod.mk.injEq]at e2;obtain⟨q1,q2,q3⟩:=e2;subst q1 q2;rw[q3];exact⟨u,e1,Sr.ent (ks:=[]) e4 hh a6.heap (by simp only[aGl,hb,Bool.true_and,w5];intro o _;cases o<;>rfl) (λr hr=>absurd hr (Nat.not_lt_zero r)) (Nat.zero_le _) e3⟩};{cases h}
theorem bCm:∀{l:List (Nat×Nat×List (TV τ.toTS))} {i:Nat} {t:TR τ.toTS},lkH (kpH l) i=some t->∃q∈l,i=q.1/\t= .cells q.2.1 q.2.2 (q.2.2.map λ_=>1)
 |[],i,t,h=>by cases h
 |p::l,i,t,h=>by simp only[lkH,kpH,m5,lF]at h;(cases hb:f9 p.1 i with|true=>rw[hb]at h;cases h;exact⟨p,List.mem_cons_self,(w6 hb).symm,rfl⟩|false=>rw[hb]at h;obtain⟨q,a,b⟩:=bCm (l:=l) (i:=i) (t:=t) h;exact⟨q,m8 _ a,b⟩)
theorem aLn{R:Type}{x:R}:∀{qs:List QK} {j:Nat} {y:KT τ.toTS qs R},rdK τ.toTS1 H' qs j x=some y->kpX qs y=x/\∀q∈kpR τ.toTS1 qs j y,(∃ts,lkH H' q.1=some (.cells q.2.1 q.2.2 ts))/\q.1∈kpN τ.toTS1 qs j
 |[],j,y,h=>by simp only[rdK,w7.injEq]at h;exact⟨h.symm,λq hq=>by cases hq⟩
 | .pt t::qs,j,y,h=>by simp only[rdK]at h;split at h;{rename_i e vs ts hr;obtain⟨hb,h1⟩:=aF h;clear h;have:=w6 hb;subst this;split at h1;{rename_i u hu;split at h1;{rename_i z hz;cases h1;obtain⟨a,b⟩:=aLn hz;refine⟨a,λq hq=>?_⟩;simp only[kpR,g8]at hq;rcases hq with rfl|hq;{exact⟨⟨ts,by rw[hr];simp only[aUz hu]⟩,by simp[kpN]⟩};{exact⟨(b q hq).1,m8 _ (b q hq).2⟩}};{cases h1}};{cases h1}};{cases h}
 | .v _::qs,j,y,h=>aLn (qs:=qs) h
 | .ow _::qs,j,y,h=>aLn (qs:=qs) h
 | .os _::qs,j,y,h=>aLn (qs:=qs) h
theorem bGx{m:Nat}{qs:List QK}{s:RK}{ls:List LRes}{y:KT τ.toTS qs (s.T τ.toTS)}(hw:wfR τ.toTS s=true)(hq:qs.all (wfQ τ.toTS)=true)(h:bLz τ.toTS1 m E' H' qs s ls=some y)(he:EOk τ.toTS1 L E' H' n' env')(hh:HtOk τ.toTS1 H' n' Hp'):
 ∃r',iD env' Hp' ls=some r'/\Ent m [tr τ.toTS1 (iZ τ.toTS1 s (kpX qs y) (kpH (kpR τ.toTS1 qs 0 y)) m).1] (cnH τ.toTS1 (iZ τ.toTS1 s (kpX qs y) (kpH (kpR τ.toTS1 qs 0 y)) m).2.1) (iZ τ.toTS1 s (kpX qs y) (kpH (kpR τ.toTS1 qs 0 y)) m).2.2 [r'] Hp' n':=by
 unfold bLz at h;split at h;{rename_i x rs hx;obtain⟨hb,h1⟩:=aF h;clear h;simp only[x5]at hb;obtain⟨b1,b2⟩:=hb;simp only[w5]at b2;obtain⟨k1,k2⟩:=aLn h1;have hkep:Kep τ (kpR τ.toTS1 qs 0 y):=aCa hq;rw[k1];have s0:Sr τ (rS m rs) (m+rs.length) (kpH (kpR τ.toTS1 qs 0 y)) H':=⟨λr t hr=>by obtain⟨q,hq,rfl,rfl⟩:=bCm hr;obtain⟨⟨ts,a⟩,b⟩:=k2 q hq;have hlt:q.1<m:=(by have:=b2 _ b;simpa[Nat.blt_eq]using this);obtain⟨_,z,hz⟩:=hkep q hq;refine⟨by omega,?_,.inr ⟨q.1,_,if_pos hlt,a,rfl⟩⟩;simp only[trR];rw[hz];exact aFy _ _⟩;obtain⟨u,w,H2,e1,e2,e3,e4⟩:=bNe (ρ:=rS m rs) (n:=m) (n2:=m+rs.length) hx he hh s0 (λk _=>by simp only[rS];rw[if_neg (by omega)];congr 1;omega) (k9 _);obtain⟨w',u',Ha,Ga,c,t1,_,t3,_⟩:=bCx s x hw (kpH (kpR τ.toTS1 qs 0 y)) m TH.emp 0;rw[e2]at t1 ⊢;simp only[Prod.mk.injEq]at t1;obtain⟨q1,q2,q3⟩:=t1;subst q1 q2;refine⟨u,e1,Sr.ent (ks:=kpN τ.toTS1 qs 0) e4 hh (λr=>dV r) b1 (λr hr hl=>?_) (Nat.le_add_right m _) e3⟩;rw[t3.oh r (.inl hr)]at hl;obtain⟨t,ht⟩:=y3.1 hl;obtain⟨q,hq,rfl,_⟩:=bCm ht;exact(k2 q hq).2};{cases h}
theorem yS{p:PK}{l:LRes}{x:p.T τ.toTS}(h:rdB τ.toTS1 E' H' p l=some x)(he:EOk τ.toTS1 L E' H' n' env')(hh:HtOk τ.toTS1 H' n' Hp'):
 ∃u,zS env' Hp' l=some u/\Clo Hp' u (avP τ.toTS1 p x):=by
 unfold rdB at h;split at h
 · rename_i v hv
   have hne:v≠ .v .unk:=λe=>by subst e;cases p<;>cases h
   obtain⟨a,b⟩:=bDj hv he hh hne;exact⟨_,a,(bIv h b hh).1⟩
 {cases h}
theorem vY{p:PK}(h:bP τ.toTS p=true)(x:p.T τ.toTS):avO τ.toTS1 p x=avP τ.toTS1 p x/\∀n,eL n (avO τ.toTS1 p x)=(avO τ.toTS1 p x,[],n):=by
 (cases p with|i k=>exact⟨rfl,λn=>rfl⟩|b=>exact⟨rfl,λn=>rfl⟩|row c=>cases h|st c=>cases h|rb c=>exact⟨rfl,λn=>rfl⟩|sb c=>exact⟨rfl,λn=>by simp only[avO,eL,aQs (xB h x)]⟩)
theorem bGy:∀{ps:List PK} {ls:List LRes} {x:TupP τ.toTS ps},bEe τ.toTS1 E' H' ps ls=some x->ps.all (bP τ.toTS)=true->EOk τ.toTS1 L E' H' n' env'->HtOk τ.toTS1 H' n' Hp'->
 ∃us vs,fJ env' Hp' ls=some us/\us.length=ps.length/\dW 0 (tE τ.toTS1 ps x)=(vs,[],0)/\Cloz Hp' us vs
 |[],[],x,h,hb,he,hh=>⟨[],[],rfl,rfl,rfl,hO⟩
 |[],_::_,x,h,_,_,_=>by cases h
 |[p],[],x,h,_,_,_=>by cases h
 |[p],[l],x,h,hb,he,hh=>by simp only[bEe]at h;simp only[y4,List.all_nil,Bool.and_true]at hb;obtain⟨u,e1,e2⟩:=yS h he hh;obtain⟨b1,b2⟩:=vY hb x;exact⟨[u],[avP τ.toTS1 p x],by simp only[fJ,e1],rfl,by simp only[tE,dW,b2,r8];rw[b1],fE e2 hO⟩
 |[p],_::_::_,x,h,_,_,_=>by cases h
 |p::q::ps,[],x,h,_,_,_=>by cases h
 |p::q::ps,l::ls,x,h,hb,he,hh=>by simp only[bEe]at h;rw[y4,x5]at hb;split at h;{rename_i y hy;split at h;{rename_i z hz;cases h;obtain⟨u,e1,e2⟩:=yS hy he hh;obtain⟨b1,b2⟩:=vY hb.1 y;obtain⟨us,vs,f1,f0,f2,f3⟩:=bGy hz hb.2 he hh;exact⟨u::us,avP τ.toTS1 p y::vs,by simp only[fJ,e1,f1],by simp only[y7,f0],by simp only[tE,dW,b2,f2,r8];rw[b1],fE e2 f3⟩};{cases h}};{cases h}
theorem bYc{s:RK}{ls:List LRes}{x:s.T τ.toTS}(h:bRw τ.toTS1 E' H' s ls=some x)(hb:bR τ.toTS s=true)(he:EOk τ.toTS1 L E' H' n' env')(hh:HtOk τ.toTS1 H' n' Hp'):
 ∃r',iD env' Hp' ls=some r'/\Ent 0 [(bM 0 (avR τ.toTS1 s x)).1] (bM 0 (avR τ.toTS1 s x)).2.1 (bM 0 (avR τ.toTS1 s x)).2.2 [r'] Hp' n':=by
 unfold bRw at h;split at h;{rename_i p l;obtain⟨u,e1,e2⟩:=yS h he hh;obtain⟨b1,b2⟩:=vY hb x;have en:bM 0 (avR τ.toTS1 (.one p) x)=(avP τ.toTS1 p x,[],0):=(by have:bM 0 (avR τ.toTS1 (.one p) x)=eL 0 (avO τ.toTS1 p x):=(by cases p<;>rfl);rw[this,b2,b1]);rw[en];exact⟨u,by simp only[iD,fJ,e1],Ent.clov (.one _ _ e2)⟩};{rename_i p q l k;simp only[bR,x5]at hb;split at h;{rename_i y hy;split at h;{rename_i z hz;cases h;obtain⟨u,e1,e2⟩:=yS hy he hh;obtain⟨u2,f1,f2⟩:=yS hz he hh;obtain⟨b1,b2⟩:=vY hb.1 y;obtain⟨c1,c2⟩:=vY hb.2 z;have en:bM 0 (avR τ.toTS1 (.two p q) (y,z))=(.tup [avP τ.toTS1 p y,avP τ.toTS1 q z],[],0):=(by simp only[avR,bM,dW,b2,c2,r8];rw[b1,c1]);rw[en];exact⟨.tup [u,u2],by simp only[iD,fJ,e1,f1],Ent.clov (.tup _ _ (fE e2 (fE f2 hO)))⟩};{cases h}};{cases h}};{rename_i p q s l k j;simp only[bR,x5]at hb;split at h;{rename_i y hy;split at h;{rename_i z hz;split at h;{rename_i z3 hz3;cases h;obtain⟨u,e1,e2⟩:=yS hy he hh;obtain⟨u2,f1,f2⟩:=yS hz he hh;obtain⟨u3,g1,g2⟩:=yS hz3 he hh;obtain⟨b1,b2⟩:=vY hb.1.1 y;obtain⟨c1,c2⟩:=vY hb.1.2 z;obtain⟨d1,d2⟩:=vY hb.2 z3;have en:bM 0 (avR τ.toTS1 (.three p q s) (y,z,z3))=(.tup [avP τ.toTS1 p y,avP τ.toTS1 q z,avP τ.toTS1 s z3],[],0):=(by simp only[avR,bM,dW,b2,c2,d2,r8];rw[b1,c1,d1]);rw[en];exact⟨.tup [u,u2,u3],by simp only[iD,fJ,e1,f1,g1],Ent.clov (.tup _ _ (fE e2 (fE f2 (fE g2 hO))))⟩};{cases h}};{cases h}};{cases h}}
 · obtain⟨us,vs,e1,e0,e2,e3⟩:=bGy h hb he hh
   have en:∀p q ps (y:TupP τ.toTS (p::q::ps)),dW 0 (tE τ.toTS1 (p::q::ps) y)=(vs,[],0)->bM 0 (avR τ.toTS1 (.tup p q ps) y)=(.tup vs,[],0):=λp q ps y h=>by simp only[avR,bM,h]
   rw[en _ _ _ _ e2];exact⟨.tup us,aTa e1 e0,Ent.clov (.tup _ _ e3)⟩
 {cases h}
theorem bGl{s:RK}{ls:List LRes}{x:s.T τ.toTS}(hw:wfR τ.toTS s=true)(h:bLe τ.toTS1 E' H' s ls=some x)(he:EOk τ.toTS1 L E' H' n' env')(hh:HtOk τ.toTS1 H' n' Hp'):
 ∃r',iD env' Hp' ls=some r'/\Ent 0 [(bM 0 (avR τ.toTS1 s x)).1] (bM 0 (avR τ.toTS1 s x)).2.1 (bM 0 (avR τ.toTS1 s x)).2.2 [r'] Hp' n':=by
 unfold bLe at h;split at h;{rename_i hb;exact bYc h hb he hh};{exact cCd hw h he hh}
theorem cCe (hΓ:sM τ.toTS1 P Γ) {f:FuncId} {lf:LFun} (hl:kP P f=some lf) {args:List AV} {E0:TE τ.toTS} {A:An} {s:RK} {x:s.T τ.toTS} (hw:wfR τ.toTS s=true) (h0:EOk τ.toTS1 L E0 (TH.emp:TH τ.toTS) 0 (args++j0 (lf.ntmps-args.length) .und))
 (h:dna τ.toTS1 Γ L lf.body A E0 TH.emp 0 (λo E H _=>match o with| .exit _=>none|_=>bLe τ.toTS1 E H s lf.res)=some x):Fn P f args (avR τ.toTS1 s x):=by
 refine Inl.of_aw hl (uB hΓ h h0 aGo (k9 0) λo E' H' n' env' Hp' k1 k2 _ _ _ k6=>?_);(cases o with|exit i=>cases k1|normal=>exact bGl hw k1 k2 k6|ret=>exact bGl hw k1 k2 k6)
theorem bXt (hΓ:sM τ.toTS1 P Γ) {f:FuncId} {lf:LFun} (hl:kP P f=some lf) {as:List (TV τ.toTS)} {E0:TE τ.toTS} {H0:TH τ.toTS} {m:Nat} {A:An} {qs:List QK} {s:RK} {y:KT τ.toTS qs (s.T τ.toTS)} (hw:wfR τ.toTS s=true) (hq:qs.all (wfQ τ.toTS)=true) (h0:EOk τ.toTS1 L E0 H0 m (trs τ.toTS1 as++j0 (lf.ntmps-(trs τ.toTS1 as).length) .und)) (hh:HtOk τ.toTS1 H0 m (cnH τ.toTS1 H0))
 (h:dna τ.toTS1 Γ L lf.body A E0 H0 m (λo E H _=>match o with| .exit _=>none|_=>bLz τ.toTS1 m E H qs s lf.res)=some y):SjE τ.toTS1 P f s as H0 m (kpR τ.toTS1 qs 0 y) (kpX qs y):=by
 refine Inl.of_aw hl (uB hΓ h h0 hh (k9 m) λo E' H' n' env' Hp' k1 k2 _ _ _ k6=>?_);(cases o with|exit i=>cases k1|normal=>exact bGx hw hq k1 k2 k6|ret=>exact bGx hw hq k1 k2 k6)
end
theorem hM:∀{cs:List AV},noOwn cs=true->Shal cs
 |[],_=>trivial
 |x::cs,h=>by simp only[noOwn,y4,x5]at h;refine⟨?_,hM h.2⟩;cases x<;>first|trivial|(simp only[AV.node]at h;cases h.1)
theorem fM{T:Type}{c:T->List AV}(hno:∀x,noOwn (c x)=true)(hcl:∀x,aS (c x)=true):oG c c:=λx H r π j _=>by rw[iF (hno x)];exact aDz (hcl x)
noncomputable def aAb (P:Program)(f:Nat):LFun:=(kP P f).getD ⟨0,[],.skip⟩
noncomputable def bJt (τ:TS1)(Γ:Ctx τ.toTS)(lf:LFun)(A:An)(s:RK):(ps:List PK)->List (Nat×Nat×TV τ.toTS)->Nat->Cur τ.toTS ps (Option (s.T τ.toTS))
 |[],acc,_=>dna τ Γ lf.ntmps lf.body A ⟨acc,2⟩ TH.emp 0 λo E H _=>match o with| .exit _=>none|_=>bLe τ E H s lf.res
 |p::ps,acc,i=>λx=>bJt τ Γ lf A s ps ((i,1,jD τ p x)::acc) (i+1)
section
variable {τ : TS2} {P : Program} {Γ : Ctx τ.toTS}
structure Fst (τ : TS2) (acc : List (Nat × Nat × TV τ.toTS)) (as : List AV) : Prop where
 val:∀j,(dU acc j).2= .v .unk\/(j<as.length/\as.getD j .unk=tr τ.toTS1 (dU acc j).2)
 good:∀j,Gd (TH.emp:TH τ.toTS) 0 (dU acc j).2
 tm:∀j,(dU acc j).1<=1
theorem Fst.more{acc:List (Nat×Nat×TV τ.toTS)}{as:List AV}{p:PK}{x:p.T τ.toTS}(hw:wfA τ.toTS p=true)(h:Fst τ acc as):Fst τ ((as.length,1,jD τ.toTS1 p x)::acc) (as++[avP τ.toTS1 p x]):=by
 refine⟨λj=>?_,λj=>?_,λj=>?_⟩<;>simp only[dU]<;>cases hb:f9 as.length j with
 |true=>
  first
   |exact bIb p x hw
   |exact k9 1
   |(have:=w6 hb;subst this;right;exact⟨by simp,by rw[bGu];simp⟩)
 |false=>
  first
   |exact h.good j
   |exact h.tm j
   |exact(h.val j).imp id λ⟨a,b⟩=>⟨by rw[y5];omega,by simp only[x6]at b ⊢;rw[e7 a];exact b⟩
theorem bIs(hΓ:sM τ.toTS1 P Γ){f:FuncId}{lf:LFun}(hl:kP P f=some lf){A:An}{s:RK}(hw:wfR τ.toTS s=true):∀(ps:List PK) {acc:List (Nat×Nat×TV τ.toTS)} {as:List AV},ps.all (wfA τ.toTS)=true->Fst τ acc as->as.length+ps.length<=lf.ntmps->SgP τ.toTS1 P f (avR τ.toTS1 s) ps as (bJt τ.toTS1 Γ lf A s ps acc as.length)
 |[],acc,as,_,h,hn=>by intro x hx;simp only[l7,qZU]at hn;refine cCe hΓ hl hw (L:=lf.ntmps) (E0:=⟨acc,2⟩) ⟨by simp;omega,λi=>?_,λi=>h.good i,λi=>?_⟩ hx;{show(dU acc i).2= .v .unk\/_=tr τ.toTS1 (dU acc i).2;refine(h.val i).imp id λ⟨a,b⟩=>?_;simp only[x6]at b ⊢;rw[e7 a];exact b};{show(dU acc i).1<2;exact Nat.lt_succ_of_le (h.tm i)}
 |p::ps,acc,as,hp,h,hn=>by intro x;rw[y4,x5]at hp;have:=bIs hΓ hl (A:=A) (s:=s) hw ps hp.2 (h.more (p:=p) (x:=x) hp.1) (by simp only[y5,y7,l7]at hn ⊢;omega);simp only[y5,y7,l7]at this;exact this
theorem sg(hΓ:sM τ.toTS1 P Γ)(f:FuncId)(A:An)(s:RK)(ps:List PK)(F:Cur τ.toTS ps (Option (s.T τ.toTS)))(h:bJt τ.toTS1 Γ (aAb P f) A s ps [] 0=F)(hl:(kP P f).isSome=true)(hn:(Nat.ble ps.length (aAb P f).ntmps&&wfR τ.toTS s&&ps.all (wfA τ.toTS))=true):SgP τ.toTS1 P f (avR τ.toTS1 s) ps [] F:=by subst h;obtain⟨lf,e⟩:=y3.1 hl;have e2:aAb P f=lf:=(by unfold aAb;rw[e];rfl);rw[e2]at hn ⊢;simp only[x5]at hn;obtain⟨⟨hn,hw⟩,hp⟩:=hn;exact bIs hΓ e hw ps hp (acc:=[]) (as:=[]) ⟨λj=> .inl rfl,λj=>by simp only[dU,Gd,plainV],λj=>Nat.zero_le 1⟩ (by simpa using hn)
theorem HtOk.cn{H:TH τ.toTS}{n:Nat}{Hp:Heap}(h:HtOk τ.toTS1 H n Hp):HtOk τ.toTS1 H n (cnH τ.toTS1 H):=h.heapEq λr=>by rw[dV,h.heap]
theorem cFl{q:QK}{x:q.T τ.toTS}{H:TH τ.toTS}{n:Nat}(hw:wfQ τ.toTS q=true)(h:HtOk τ.toTS1 H n (cnH τ.toTS1 H)):HtOk τ.toTS1 (bQ τ.toTS1 q x H n).2.1 (bQ τ.toTS1 q x H n).2.2 (cnH τ.toTS1 (bQ τ.toTS1 q x H n).2.1)/\n<=(bQ τ.toTS1 q x H n).2.2/\Ext H n (bQ τ.toTS1 q x H n).2.1/\Gd (bQ τ.toTS1 q x H n).2.1 (bQ τ.toTS1 q x H n).2.2 (bQ τ.toTS1 q x H n).1:=by
 (cases q with|v p=>exact⟨h,k9 n,Ext.refl,bIb p x hw⟩|pt t=>obtain⟨a,b⟩:=h.fresh (t:= .cells t (encS τ.toTS1 t x) ((encS τ.toTS1 t x).map λ_=>H.q)) ⟨oT _ _ (τ.plf t hw),List.length_map _⟩;exact⟨a.cn,l9 n,b,by simp only[bQ,Gd,plainV];exact⟨y8 n,trivial⟩⟩|ow c=>obtain⟨v,H',n',Hr,e1,e2,e3,e4,ex,e5,e6⟩:=qJ (.row c) x rfl h;simp only[bQ,e1];exact⟨e5.cn,e3,e4,e6⟩|os c=>obtain⟨v,H',n',Hr,e1,e2,e3,e4,ex,e5,e6⟩:=qJ (.st c) x hw h;simp only[bQ,e1];exact⟨e5.cn,e3,e4,e6⟩)
noncomputable def bKk (τ:TS1)(Γ:Ctx τ.toTS)(lf:LFun)(A:An)(s:RK)(q0:List QK):(qs:List QK)->List (Nat×Nat×TV τ.toTS)->TH τ.toTS->Nat->Nat->CurQ τ.toTS qs (Option (KT τ.toTS q0 (s.T τ.toTS)))
 |[],acc,H,m,_=>dna τ Γ lf.ntmps lf.body A ⟨acc,2⟩ H m λo E H _=>match o with| .exit _=>none|_=>bLz τ m E H q0 s lf.res
 |q::qs,acc,H,m,i=>λx=>bKk τ Γ lf A s q0 qs ((i,1,(bQ τ q x H m).1)::acc) (bQ τ q x H m).2.1 (bQ τ q x H m).2.2 (i+1)
structure Fsw (τ : TS2) (acc : List (Nat × Nat × TV τ.toTS)) (as : List (TV τ.toTS)) (H : TH τ.toTS) (m : Nat) : Prop where
 val:∀j,(dU acc j).2= .v .unk\/(j<as.length/\(trs τ.toTS1 as).getD j .unk=tr τ.toTS1 (dU acc j).2)
 good:∀j,Gd H m (dU acc j).2
 tm:∀j,(dU acc j).1<=1
theorem Fsw.more{acc:List (Nat×Nat×TV τ.toTS)}{as:List (TV τ.toTS)}{H H':TH τ.toTS}{m m':Nat}{v:TV τ.toTS}(h:Fsw τ acc as H m)(hm:m<=m')(hx:Ext H m H')(hv:Gd H' m' v):Fsw τ ((as.length,1,v)::acc) (as++[v]) H' m':=by
 refine⟨λj=>?_,λj=>?_,λj=>?_⟩<;>simp only[dU]<;>cases hb:f9 as.length j with
 |true=>
  first
   |exact hv
   |exact k9 1
   |(have:=w6 hb;subst this;right;exact⟨by simp,by rw[xQ,x6,d9 (by rw[cC];exact k9 _),cC,Nat.sub_self];rfl⟩)
 |false=>
  first
   |exact(h.good j).ext hm hx
   |exact h.tm j
   |exact(h.val j).imp id λ⟨a,b⟩=>⟨by rw[y5];omega,by simp only[x6]at b ⊢;rw[xQ,e7 (by rw[cC];exact a)];exact b⟩
theorem bHg(hΓ:sM τ.toTS1 P Γ){f:FuncId}{lf:LFun}(hl:kP P f=some lf){A:An}{s:RK}{q0:List QK}(hw:wfR τ.toTS s=true)(hq0:q0.all (wfQ τ.toTS)=true):∀(qs:List QK) {acc:List (Nat×Nat×TV τ.toTS)} {as:List (TV τ.toTS)} {H:TH τ.toTS} {m:Nat},qs.all (wfQ τ.toTS)=true->Fsw τ acc as H m->HtOk τ.toTS1 H m (cnH τ.toTS1 H)->as.length+qs.length<=lf.ntmps->SjP τ.toTS1 P f s q0 qs as H m (bKk τ.toTS1 Γ lf A s q0 qs acc H m as.length)
 |[],acc,as,H,m,_,h,hh,hn=>by intro y hy;simp only[l7,qZU]at hn;refine bXt hΓ hl hw hq0 (L:=lf.ntmps) (E0:=⟨acc,2⟩) ⟨by rw[y5,l6,cC];omega,λi=>?_,λi=>h.good i,λi=>?_⟩ hh hy;{show(dU acc i).2= .v .unk\/_=tr τ.toTS1 (dU acc i).2;refine(h.val i).imp id λ⟨a,b⟩=>?_;simp only[x6]at b ⊢;rw[e7 (by rw[cC];exact a)];exact b};{show(dU acc i).1<2;exact Nat.lt_succ_of_le (h.tm i)}
 |q::qs,acc,as,H,m,hp,h,hh,hn=>by intro x;rw[y4,x5]at hp;obtain⟨b1,b2,b3,b4⟩:=cFl (q:=q) (x:=x) hp.1 hh;have:=bHg hΓ hl (A:=A) (s:=s) (q0:=q0) hw hq0 qs hp.2 (h.more b2 b3 b4) b1 (by simp only[y5,y7,l7]at hn ⊢;omega);simp only[y5,y7,l7]at this;exact this
theorem sgw(hΓ:sM τ.toTS1 P Γ)(f:FuncId)(A:An)(s:RK)(qs:List QK)(F:CurQ τ.toTS qs (Option (KT τ.toTS qs (s.T τ.toTS))))(h:bKk τ.toTS1 Γ (aAb P f) A s qs qs [] TH.emp 0 0=F)(hl:(kP P f).isSome=true)(hn:(Nat.ble qs.length (aAb P f).ntmps&&wfR τ.toTS s&&qs.all (wfQ τ.toTS))=true):SjP τ.toTS1 P f s qs qs [] TH.emp 0 F:=by subst h;obtain⟨lf,e⟩:=y3.1 hl;have e2:aAb P f=lf:=(by unfold aAb;rw[e];rfl);rw[e2]at hn ⊢;simp only[x5]at hn;obtain⟨⟨hn,hw⟩,hq⟩:=hn;exact bHg hΓ e hw hq qs hq (acc:=[]) (as:=[]) ⟨λj=> .inl rfl,λj=>by simp only[dU,Gd,plainV],λj=>Nat.zero_le 1⟩ (aGo (τ:=τ)).cn (by simpa using hn)
end
end Go.Proofs.YtcgggihjcelmhaaGreat
