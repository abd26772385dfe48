/- The typed machine. No program is named here. -/
import Derived.Test.YtcgggihjcelmhaaGreatZY
namespace Go.Proofs.YtcgggihjcelmhaaGreat
open Option renaming bind → x4, some → w7, isSome_iff_exists → y3, getD_some → qXK
open Bool renaming and_eq_true → x5, not_eq_true' → u0, and_true → e9, false_eq_true → o8
open List renaming getD_eq_getElem?_getD → x6, length → x9, replicate → j0, all_eq_true → w5, all_cons → y4, length_append → y5, length_cons → y7, getElem?_eq_getElem → y9, mem_singleton → u9, getElem?_append_right → d9, getElem?_append_left → e7, mem_cons → g8, map_cons → m5, mem_cons_of_mem → m8, cons_append → n7, all_nil → o4, nil_append → r6, append_nil → r8, length_set → t7, length_map → t8, getD_cons_zero → qQW, append_assoc → qQY, getElem?_eq_none → qQH, getElem?_map → qXX, set_eq_of_length_le → qXY, getElem?_set_self → qXH, length_singleton → qJQ
open Nat renaming le_refl → k9, eq_of_beq_eq_true → w6, lt_succ_self → y8, beq → f9, le_succ → l9, add_assoc → m4, lt_of_lt_of_le → o7, zero_add → p9, le_trans → qQQ, ble_eq → qQV, add_zero → qZU, ble → qZH, beq_eq → qJZ
set_option linter.all false
open Go.RowKit
inductive Lf where
 |i (k:IntKind)
 |b
 |row (c:Nat)
 |own (c:Nat)
structure TS where
 T:Nat->Type
 inh:∀c,Inhabited (T c)
 tid:Nat->TypeId
 lf:Nat->List Lf
 un:Nat->Nat
 ow:Nat->Nat
 tu:∀c,T c=T (un c)
 pl:Nat->Bool
 el:Nat->Bool
abbrev Lf.T(τ:TS):Lf->Type
 | .i _=>Int
 | .b=>Bool
 | .row c=>List (τ.T c)
 | .own c=>List (τ.T c)
abbrev Tup(τ:TS):List Lf->Type
 |[]=>Unit
 |[a]=>a.T τ
 |a::b::l=>a.T τ×Tup τ (b::l)
inductive NV (τ : TS) where
 |ow (c:Nat) (xs:List (τ.T c))
 |nws (r c i o c2 k:Nat)
 |nelt (r c i o c2 j off:Nat)
 |wc (r e m:Nat)
inductive TV (τ : TS) where
 |v (x:AV)
 |ws (r c n:Nat)
 |part (r c i k:Nat)
 |elt (r c i off:Nat)
 |bor (c:Nat) (xs:List (τ.T c))
 |bel (c:Nat) (xs:List (τ.T c)) (i off:Nat)
 |agg (vs:List (TV τ))
 |tup (vs:List (TV τ))
 |bl (e m:Nat) (vs:List (TV τ))
 |x (a:NV τ)
abbrev TS.sz(τ:TS)(c:Nat):Nat:=(τ.lf c).length
def cO(τ:TS):(a:Lf)->a.T τ->TV τ
 | .i k,z=> .v (.int k z)
 | .b,t=> .v (.bool t)
 | .row c,xs=> .bor c xs
 | .own c,xs=> .x (.ow c xs)
def cB(τ:TS):(l:List Lf)->Tup τ l->List (TV τ)
 |[],_=>[]
 |[a],x=>[cO τ a x]
 |a::b::l,p=>cO τ a p.1::cB τ (b::l) p.2
structure TS1 extends TS where
 prj:∀c,T c->Tup toTS (lf c)
 mkS:∀c,Tup toTS (lf c)->T c
 av:∀c,T c->List AV
abbrev encS(τ:TS1)(c:Nat)(x:τ.T c):List (TV τ.toTS):=cB τ.toTS (τ.lf c) (τ.prj c x)
def trN(τ:TS1):NV τ.toTS->AV
 | .ow c xs=> .own (τ.tid c) (τ.sz c) xs.length (fl (τ.av c) xs)
 | .nws r c i o c2 k=> .sref r [i*τ.sz c+o] 0 k (τ.sz c2)
 | .nelt r c i o c2 j off=> .ptr r [i*τ.sz c+o] (j*τ.sz c2+off)
 | .wc r e m=> .sref r [] 0 m (τ.sz e)
mutual
def tr(τ:TS1):TV τ.toTS->AV
 | .v x=>x
 | .ws r c n=> .sref r [] 0 n (τ.sz c)
 | .part r c i k=> .sref r [] (i*τ.sz c) k (τ.sz c)
 | .elt r c i off=> .ptr r [] (i*τ.sz c+off)
 | .bor c xs=> .bor xs.length (fl (τ.av c) xs)
 | .bel c xs i off=> .bptr (fl (τ.av c) xs) (i*τ.sz c+off)
 | .agg vs=> .agg (trs τ vs)
 | .tup vs=> .tup (trs τ vs)
 | .bl _ m vs=> .bor m (trs τ vs)
 | .x a=>trN τ a
def trs(τ:TS1):List (TV τ.toTS)->List AV
 |[]=>[]
 |v::vs=>tr τ v::trs τ vs
end
def plL(τ:TS):Lf->Bool
 | .row d=>τ.pl d
 | .own _=>false
 |_=>true
def elL(τ:TS):Lf->Bool
 | .row d=>τ.pl d
 | .own d=>τ.pl d
 |_=>true
structure TS2 extends TS1 where
 avE:∀c x,av c x=trs toTS1 (encS toTS1 c x)
 mkP:∀c t,prj c (mkS c t)=t
 pos:∀c,0<toTS.sz c
 cln:∀c x,pl c=true->aS (av c x)=true
 nr:∀c x,aG (av c x)=true
 plf:∀c,pl c=true->(lf c).all (plL toTS)=true
 elf:∀c,el c=true->(lf c).all (elL toTS)=true
 thw:∀c x,el c=true->(av c x).map AV.thaw=av (un c) (cast (tu c) x)
 shl:∀c x,el c=true->Shal (av c x)
 clo:∀c,el c=true->oG (av c) (λx=>av (un c) (cast (tu c) x))
 plu:∀c,el c=true->pl (un c)=true
inductive TR (τ : TS) where
 |cells (e:TypeId) (vs:List (TV τ)) (ts:List Nat)
 |row (c:Nat) (xs:List (τ.T c))
 |pst (c:Nat) (xs:List (τ.T c)) (i off:Nat) (us:List (TV τ))
 |pap (c:Nat) (xs:List (τ.T c)) (us:List (TV τ)) (m:Nat)
 |pmk (c k:Nat) (z:List (TV τ))
 |hol (c:Nat) (xs:List (τ.T c)) (hs:List (Nat×Nat))
structure TH (τ : TS) where
 l:List (Nat×Nat×Option (TR τ))
 q:Nat
structure TE (τ : TS) where
 l:List (Nat×Nat×TV τ)
 q:Nat
def dU{τ:TS}:List (Nat×Nat×TV τ)->Nat->Nat×TV τ
 |[],_=>(0,.v .unk)
 |(k,x)::l,i=>match f9 k i with|true=>x|false=>dU l i
def lF{τ:TS}:List (Nat×Nat×Option (TR τ))->Nat->Nat×Option (TR τ)
 |[],_=>(0,none)
 |(k,x)::l,i=>match f9 k i with|true=>x|false=>lF l i
def lkE{τ:TS}(E:TE τ)(i:Nat):TV τ:=(dU E.l i).2
def lkH{τ:TS}(H:TH τ)(i:Nat):Option (TR τ):=(lF H.l i).2
def tmE{τ:TS}(E:TE τ)(i:Nat):Nat:=(dU E.l i).1
def tmH{τ:TS}(H:TH τ)(i:Nat):Nat:=(lF H.l i).1
def TH.put{τ:TS}(H:TH τ)(r:Nat)(t:Option (TR τ)):TH τ:=⟨(r,H.q,t)::H.l,H.q+1⟩
def TE.put{τ:TS}(E:TE τ)(i:Nat)(v:TV τ):TE τ:=⟨(i,E.q,v)::E.l,E.q+1⟩
def trR(τ:TS1):TR τ.toTS->Root
 | .cells e vs _=>⟨e,trs τ vs⟩
 | .row c xs=>⟨τ.tid c,fl (τ.av c) xs⟩
 | .pst c xs i off us=>⟨τ.tid c,aT (fl (τ.av c) xs) (i*τ.sz c+off) (trs τ us)⟩
 | .pap c xs us _=>⟨τ.tid c,fl (τ.av c) xs++trs τ us⟩
 | .pmk c k z=>⟨τ.tid c,aR (trs τ z) k⟩
 | .hol c xs hs=>⟨τ.tid c,hs.foldl (λcs h=>cs.set (h.1*τ.sz c+h.2) .unk) (fl (τ.av c) xs)⟩
variable {τ : TS2}
theorem cC{τ:TS1}:∀vs:List (TV τ.toTS),(trs τ vs).length=vs.length
 |[]=>rfl
 |v::vs=>by simp only[trs,y7,cC vs]
theorem xQ{τ:TS1}:∀vs us:List (TV τ.toTS),trs τ (vs++us)=trs τ vs++trs τ us
 |[],_=>rfl
 |v::vs,us=>by simp only[n7,trs,xQ vs us]
theorem aFs{τ:TS1}:∀vs:List (TV τ.toTS),trs τ vs=vs.map (tr τ)
 |[]=>rfl
 |v::vs=>by simp only[m5,trs,aFs vs]
theorem pE{τ:TS1}{vs:List (TV τ.toTS)}{o:Nat}(h:o<vs.length):(trs τ vs).getD o .unk=tr τ (vs.getD o (.v .unk)):=by rw[aFs];simp[x6,qXX,y9 h]
theorem aWu{τ:TS1}{vs:List (TV τ.toTS)}{o:Nat}{v:TV τ.toTS}:trs τ (vs.set o v)=(trs τ vs).set o (tr τ v):=by rw[aFs,aFs,List.map_set]
theorem fT{τ:TS}:∀(l:List Lf) (t:Tup τ l),(cB τ l t).length=l.length
 |[],_=>rfl
 |[_],_=>rfl
 |a::b::l,p=>by simp only[cB,y7,fT (b::l) p.2]
theorem aFr{τ:TS}:∀(l:List Lf) (t:Tup τ l) (j:Nat),j<l.length->∃(a:Lf) (z:a.T τ),l[j]? =some a/\(cB τ l t).getD j (.v .unk)=cO τ a z
 |[],_,j,h=>absurd h (Nat.not_lt_zero j)
 |[a],x,j,h=>by have:j=0:=(by simpa using h);subst this;exact⟨a,x,rfl,rfl⟩
 |a::b::l,p,0,_=>⟨a,p.1,rfl,rfl⟩
 |a::b::l,p,j+1,h=>by obtain⟨c,z,h1,h2⟩:=aFr (b::l) p.2 j (by simpa using h);exact⟨c,z,by simpa using h1,by simpa only[cB,List.getD_cons_succ]using h2⟩
theorem bJ(c:Nat)(x:τ.T c):(τ.av c x).length=τ.sz c:=by rw[τ.avE,cC,fT]
end Go.Proofs.YtcgggihjcelmhaaGreat
namespace Go.Proofs.YtcgggihjcelmhaaGreat
open Option renaming bind → x4, some → w7, isSome_iff_exists → y3, getD_some → qXK
open Bool renaming and_eq_true → x5, not_eq_true' → u0, and_true → e9, false_eq_true → o8
open List renaming getD_eq_getElem?_getD → x6, length → x9, replicate → j0, all_eq_true → w5, all_cons → y4, length_append → y5, length_cons → y7, getElem?_eq_getElem → y9, mem_singleton → u9, getElem?_append_right → d9, getElem?_append_left → e7, mem_cons → g8, map_cons → m5, mem_cons_of_mem → m8, cons_append → n7, all_nil → o4, nil_append → r6, append_nil → r8, length_set → t7, length_map → t8, getD_cons_zero → qQW, append_assoc → qQY, getElem?_eq_none → qQH, getElem?_map → qXX, set_eq_of_length_le → qXY, getElem?_set_self → qXH, length_singleton → qJQ
open Nat renaming le_refl → k9, eq_of_beq_eq_true → w6, lt_succ_self → y8, beq → f9, le_succ → l9, add_assoc → m4, lt_of_lt_of_le → o7, zero_add → p9, le_trans → qQQ, ble_eq → qQV, add_zero → qZU, ble → qZH, beq_eq → qJZ
set_option linter.all false
open Go.RowKit
def plainV(n:Nat):AV->Prop
 | .unk| .und| .nil| .emp| .bool _| .int _ _=>True
 | .ptr r π _=>r<n/\π=[]
 |_=>False
def qN{τ:TS}:TR τ->Option (Nat×Nat)
 | .cells _ _ _=>none
 | .row c xs=>some (c,xs.length)
 | .pst c xs _ _ _=>some (c,xs.length)
 | .pap c xs _ m=>some (c,xs.length+m)
 | .pmk c k _=>some (c,k)
 | .hol c xs _=>some (c,xs.length)
def RowLen{τ:TS}(H:TH τ)(r c k:Nat):Prop:=∀p,(lkH H r).bind qN=some p->p=(c,k)
theorem RowLen.row{τ:TS}{H:TH τ}{r c k c':Nat}{xs:List (τ.T c')}(h:RowLen H r c k)(hr:lkH H r=some (.row c' xs)):c'=c/\xs.length=k:=by have:=h (c',xs.length) (by rw[hr];rfl);simpa using this
abbrev getE(τ:TS)(c:Nat)(xs:List (τ.T c))(i:Nat):τ.T c:=@List.getD _ xs i (τ.inh c).default
def olT{τ:TS}:TV τ->Nat
 | .x (.ow _ xs)=>xs.length
 |_=>0
def shp(τ:TS1)(c:Nat)(x:τ.T c):List Nat:=(encS τ c x).map olT
def aDt{τ:TS}(t:Option (TR τ))(c:Nat)(xs:List (τ.T c)):Prop:=t=some (.row c xs)\/∃hs,t=some (.hol c xs hs)
def InAt{τ:TS1}(H:TH τ.toTS)(r c i o k:Nat):Prop:=∀c' xs,aDt (lkH H r) c' xs->c'=c/\i<xs.length/\(shp τ c' (getE τ.toTS c' xs i)).getD o 0=k
def GdN{τ:TS1}(H:TH τ.toTS)(n:Nat):NV τ.toTS->Prop
 | .ow _ _=>False
 | .nws r c i o c2 k=>r<n/\(τ.lf c)[o]? =some (.own c2)/\InAt H r c i o k
 | .nelt r c i o c2 j _=>r<n/\(τ.lf c)[o]? =some (.own c2)/\∃k,j<k/\InAt H r c i o k
 | .wc r _ _=>r<n
mutual
def Gd{τ:TS1}(H:TH τ.toTS)(n:Nat):TV τ.toTS->Prop
 | .v x=>plainV n x
 | .ws r c k=>r<n/\RowLen H r c k
 | .part r c i k=>r<n/\∃m,i+k<=m/\RowLen H r c m
 | .elt r c i _=>r<n/\∃k,i<k/\RowLen H r c k
 | .bor c _=>τ.pl c=true
 | .bel c xs i _=>τ.pl c=true/\i<xs.length
 | .agg vs=>Gds H n vs
 | .tup vs=>Gds H n vs
 | .bl _ _ vs=>Gds H n vs
 | .x a=>GdN H n a
def Gds{τ:TS1}(H:TH τ.toTS)(n:Nat):List (TV τ.toTS)->Prop
 |[]=>True
 |v::vs=>Gd H n v/\Gds H n vs
end
def Ex1{τ:TS1}(a b:Option (TR τ.toTS)):Prop:=(∀p,b.bind qN=some p->a.bind qN=some p)/\∀c xs',aDt b c xs'->∃xs,aDt a c xs/\xs.map (shp τ c)=xs'.map (shp τ c)
def Ext{τ:TS1}(H:TH τ.toTS)(n:Nat)(H':TH τ.toTS):Prop:=∀r,r<n->Ex1 (lkH H r) (lkH H' r)
def tvs{τ:TS}:TR τ->List (TV τ)
 | .cells _ vs _=>vs
 | .row _ _=>[]
 | .pst _ _ _ _ us=>us
 | .pap _ _ us _=>us
 | .pmk _ _ z=>z
 | .hol _ _ _=>[]
def aDn(τ:TS1):TR τ.toTS->Prop
 | .cells _ vs ts=>ts.length=vs.length
 | .row _ _=>True
 | .pst c xs i off us=>i<xs.length/\off+us.length<=τ.sz c
 | .pap c _ us m=>us.length=m*τ.sz c
 | .pmk c _ z=>z.length=τ.sz c
 | .hol c xs hs=>∀h∈hs,h.1<xs.length/\h.2<τ.sz c
structure HtOk (τ : TS1) (H : TH τ.toTS) (n : Nat) (Hp : Heap) : Prop where
 heap:∀r,Hp.get1 r=(lkH H r).map (trR τ)
 all:∀r t,lkH H r=some t->Gds H n (tvs t)/\aDn τ t
 low:∀r,n<=r->lkH H r=none
 tm:∀r,tmH H r<H.q
structure EOk (τ : TS1) (L : Nat) (E : TE τ.toTS) (H : TH τ.toTS) (n : Nat) (env : List AV) : Prop where
 len:env.length=L
 env:∀i,lkE E i= .v .unk\/env.getD i .unk=tr τ (lkE E i)
 good:∀i,Gd H n (lkE E i)
 tm:∀i,tmE E i<E.q
section
variable {τ : TS1} {H H' : TH τ.toTS} {n n' : Nat} {Hp : Heap} {L : Nat} {E : TE τ.toTS} {env : List AV}
theorem HtOk.cells(h:HtOk τ H n Hp)(r:Nat)(e:TypeId)(vs:List (TV τ.toTS))(ts:List Nat)(hr:lkH H r=some (.cells e vs ts)):Gds H n vs/\ts.length=vs.length:=h.all r _ hr
theorem aVo{A B:Type}{f:A->B}{xs ys:List A}(h:xs.map f=ys.map f):xs.length=ys.length:=by simpa using congrArg x9 h
theorem Ex1.refl{a:Option (TR τ.toTS)}:Ex1 a a:=⟨λ_ h=>h,λ_ xs h=>⟨xs,h,rfl⟩⟩
theorem Ex1.none{a:Option (TR τ.toTS)}:Ex1 a none:=⟨λ_ h=>(by cases h),λ_ xs h=>(by rcases h with h|⟨_,h⟩<;>cases h)⟩
theorem Ex1.cells{a:Option (TR τ.toTS)}{e:TypeId}{vs:List (TV τ.toTS)}{ts:List Nat}:Ex1 a (some (.cells e vs ts)):=⟨λ_ h=>(by cases h),λ_ xs h=>(by rcases h with h|⟨_,h⟩<;>cases h)⟩
theorem Ex1.row{c:Nat}{xs ys:List (τ.T c)}(h:xs.map (shp τ c)=ys.map (shp τ c)):Ex1 (τ:=τ) (some (.row c xs)) (some (.row c ys)):=⟨λp hp=>(by simp only[x4,qN]at hp ⊢;rw[aVo h];exact hp),λc' zs e=>(by rcases e with e|⟨_,e⟩<;>cases e;exact⟨xs,.inl rfl,h⟩)⟩
theorem Ex1.hol{a:Option (TR τ.toTS)}{c:Nat}{xs:List (τ.T c)}{hs:List (Nat×Nat)}(h:aDt a c xs):Ex1 a (some (.hol c xs hs)):=⟨λp hp=>(by rcases h with h|⟨_,h⟩<;>rw[h]<;>exact hp),λc' zs e=>(by rcases e with e|⟨_,e⟩<;>cases e;exact⟨xs,h,rfl⟩)⟩
theorem Ex1.raw{a:Option (TR τ.toTS)}{t:TR τ.toTS}(h:a.bind qN=qN t)(ht:∀c xs,¬aDt (some t) c xs):Ex1 a (some t):=⟨λp hp=>(by rw[h];exact hp),λc xs e=>absurd e (ht c xs)⟩
theorem Ex1.trans{a b c:Option (TR τ.toTS)}(h:Ex1 a b)(k:Ex1 b c):Ex1 a c:=⟨λp hp=>h.1 p (k.1 p hp),λc xs e=>by obtain⟨ys,h1,h2⟩:=k.2 c xs e;obtain⟨zs,h3,h4⟩:=h.2 c ys h1;exact⟨zs,h3,h4.trans h2⟩⟩
theorem Ext.refl:Ext H n H:=λ_ _=>Ex1.refl
theorem Ext.trans{H'':TH τ.toTS}(h:Ext H n H')(hn:n<=n')(k:Ext H' n' H''):Ext H n H'':=λr hr=>(h r hr).trans (k r (o7 hr hn))
theorem plainV.more{x:AV}(hn:n<=n')(h:plainV n x):plainV n' x:=by cases x<;>simp only[plainV]at h ⊢;exact⟨by omega,h.2⟩
theorem RowLen.ext1{r c k:Nat}(he:Ex1 (lkH H r) (lkH H' r))(h:RowLen H r c k):RowLen H' r c k:=λp hp=>h p (he.1 p hp)
theorem InAt.ext1{r c i o k:Nat}(he:Ex1 (lkH H r) (lkH H' r))(h:InAt H r c i o k):InAt H' r c i o k:=λc' xs' hx=>by obtain⟨xs,h1,h2⟩:=he.2 c' xs' hx;obtain⟨h3,h4,h5⟩:=h c' xs h1;refine⟨h3,by rw[<-aVo h2];exact h4,?_⟩;rw[<-h5];have e:=congrArg (λl=>l.getD i []) h2;have h6:i<xs'.length:=(by rw[<-aVo h2];exact h4);simp only[x6,qXX,y9 h4,y9 h6,Option.map_some,qXK]at e;simp only[getE,x6,y9 h4,y9 h6,qXK];rw[e]
theorem GdN.ext1(hn:n<=n')(he:∀r,r<n->Ex1 (lkH H r) (lkH H' r)):∀{a:NV τ.toTS},GdN H n a->GdN H' n' a
 | .ow _ _,h=>h
 | .nws r c i o c2 k,h=>⟨by have:=h.1;omega,h.2.1,h.2.2.ext1 (he r h.1)⟩
 | .nelt r c i o c2 j _,h=>⟨by have:=h.1;omega,h.2.1,by obtain⟨k,h1,h2⟩:=h.2.2;exact⟨k,h1,h2.ext1 (he r h.1)⟩⟩
 | .wc r _ _,h=>o7 h hn
mutual
theorem Gd.ext(hn:n<=n')(he:Ext H n H'):∀{v:TV τ.toTS},Gd H n v->Gd H' n' v
 | .v x,h=>by simp only[Gd]at h ⊢;exact h.more hn
 | .ws r c k,h=>by simp only[Gd]at h ⊢;exact⟨by omega,h.2.ext1 (he r h.1)⟩
 | .part r c i o,h=>by simp only[Gd]at h ⊢;obtain⟨h1,k,h2,h3⟩:=h;exact⟨by omega,k,h2,h3.ext1 (he r h1)⟩
 | .elt r c i o,h=>by simp only[Gd]at h ⊢;obtain⟨h1,k,h2,h3⟩:=h;exact⟨by omega,k,h2,h3.ext1 (he r h1)⟩
 | .bor _ _,h=>by simpa only[Gd]using h
 | .bel _ _ _ _,h=>by simpa only[Gd]using h
 | .agg vs,h=>by simp only[Gd]at h ⊢;exact Gds.ext hn he h
 | .tup vs,h=>by simp only[Gd]at h ⊢;exact Gds.ext hn he h
 | .bl _ _ vs,h=>by simp only[Gd]at h ⊢;exact Gds.ext hn he h
 | .x a,h=>by simp only[Gd]at h ⊢;exact h.ext1 hn he
theorem Gds.ext(hn:n<=n')(he:Ext H n H'):∀{vs:List (TV τ.toTS)},Gds H n vs->Gds H' n' vs
 |[],_=>by simp only[Gds]
 |v::vs,h=>by simp only[Gds]at h ⊢;exact⟨Gd.ext hn he h.1,Gds.ext hn he h.2⟩
end
theorem Gds.all:∀{vs:List (TV τ.toTS)},Gds H n vs↔∀v∈vs,Gd H n v
 |[]=>by simp[Gds]
 |v::vs=>by simp only[Gds,g8,forall_eq_or_imp,Gds.all (vs:=vs)]
theorem Gds.getD{vs:List (TV τ.toTS)}{o:Nat}(h:Gds H n vs):Gd H n (vs.getD o (.v .unk)):=by rw[x6];(cases e:vs[o]? with|none=>simp[Gd,plainV]|some v=>exact Gds.all.1 h v (List.mem_of_getElem? e))
theorem aM{τ:TS}{H:TH τ}{r i:Nat}{t:Option (TR τ)}:lkH (H.put r t) i=if r=i then t else lkH H i:=by simp only[lkH,TH.put,lF];by_cases e:r=i;{simp[e]};{rw[if_neg e];(cases hb:f9 r i with|true=>exact absurd (w6 hb) e|false=>rfl)}
theorem bEb{τ:TS}{H:TH τ}{r i:Nat}{t:Option (TR τ)}:tmH (H.put r t) i=if r=i then H.q else tmH H i:=by simp only[tmH,TH.put,lF];by_cases e:r=i;{simp[e]};{rw[if_neg e];(cases hb:f9 r i with|true=>exact absurd (w6 hb) e|false=>rfl)}
theorem nO{τ:TS}{E:TE τ}{r i:Nat}{t:TV τ}:lkE (E.put r t) i=if r=i then t else lkE E i:=by simp only[lkE,TE.put,dU];by_cases e:r=i;{simp[e]};{rw[if_neg e];(cases hb:f9 r i with|true=>exact absurd (w6 hb) e|false=>rfl)}
theorem bAm{τ:TS}{E:TE τ}{r i:Nat}{t:TV τ}:tmE (E.put r t) i=if r=i then E.q else tmE E i:=by simp only[tmE,TE.put,dU];by_cases e:r=i;{simp[e]};{rw[if_neg e];(cases hb:f9 r i with|true=>exact absurd (w6 hb) e|false=>rfl)}
structure FxH {τ : TS} (H H' : TH τ) : Prop where
 q:H.q<=H'.q
 same:∀r,tmH H' r≠0->tmH H' r<H.q->lkH H' r=lkH H r/\tmH H' r=tmH H r
 cell:∀r e vs ts o,lkH H' r=some (.cells e vs ts)->ts.getD o 0≠0->ts.getD o 0<H.q->∃vs0 ts0,lkH H r=some (.cells e vs0 ts0)/\vs0.length=vs.length/\vs0.getD o (.v .unk)=vs.getD o (.v .unk)/\ts0.getD o 0=ts.getD o 0
structure FxE {τ : TS} (E E' : TE τ) : Prop where
 q:E.q<=E'.q
 same:∀i,tmE E' i≠0->tmE E' i<E.q->lkE E' i=lkE E i/\tmE E' i=tmE E i
theorem FxH.refl{τ:TS}{H:TH τ}:FxH H H:=⟨k9 _,λ_ _ _=>⟨rfl,rfl⟩,λ_ _ vs ts _ h _ _=>⟨vs,ts,h,rfl,rfl,rfl⟩⟩
theorem FxE.refl{τ:TS}{E:TE τ}:FxE E E:=⟨k9 _,λ_ _ _=>⟨rfl,rfl⟩⟩
theorem FxH.trans{τ:TS}{A B C:TH τ}(h:FxH A B)(k:FxH B C):FxH A C:=⟨qQQ h.q k.q,λr h0 h1=>by
 obtain⟨a,b⟩:=k.same r h0 (o7 h1 h.q);obtain⟨c,d⟩:=h.same r (b▸h0) (b▸h1);exact⟨a.trans c,b.trans d⟩,λr e vs ts o hc h0 h1=>by
 obtain⟨vs1,ts1,a1,a2,a3,a4⟩:=k.cell r e vs ts o hc h0 (o7 h1 h.q);obtain⟨vs2,ts2,b1,b2,b3,b4⟩:=h.cell r e vs1 ts1 o a1 (a4▸h0) (a4▸h1);exact⟨vs2,ts2,b1,b2.trans a2,b3.trans a3,b4.trans a4⟩⟩
theorem FxE.trans{τ:TS}{A B C:TE τ}(h:FxE A B)(k:FxE B C):FxE A C:=⟨qQQ h.q k.q,λr h0 h1=>by obtain⟨a,b⟩:=k.same r h0 (o7 h1 h.q);obtain⟨c,d⟩:=h.same r (b▸h0) (b▸h1);exact⟨a.trans c,b.trans d⟩⟩
theorem FxH.put{τ:TS}{H:TH τ}{r:Nat}{t:Option (TR τ)}(ht:∀e vs ts o,t=some (.cells e vs ts)->ts.getD o 0≠0->ts.getD o 0<H.q->∃vs0 ts0,lkH H r=some (.cells e vs0 ts0)/\vs0.length=vs.length/\vs0.getD o (.v .unk)=vs.getD o (.v .unk)/\ts0.getD o 0=ts.getD o 0):FxH H (H.put r t):=⟨l9 _,λi h0 h1=>by
 rw[bEb]at h0 h1 ⊢;rw[aM];split at h1;{omega}
 · rename_i e;rw[if_neg e,if_neg e];exact⟨rfl,rfl⟩,λi e vs ts o hc h0 h1=>by
 rw[aM]at hc;split at hc;{rename_i hi;subst hi;exact ht e vs ts o hc h0 h1}
 · exact⟨vs,ts,hc,rfl,rfl,rfl⟩⟩
theorem FxH.putRow{τ:TS}{H:TH τ}{r c:Nat}{xs:List (τ.T c)}:FxH H (H.put r (some (.row c xs))):=FxH.put λ_ _ _ _ e=>by cases e
theorem bQm{T:Type}{vs:List T}{q o:Nat}:(vs.map λ_=>q).getD o 0=0\/(vs.map λ_=>q).getD o 0=q:=by rw[x6,qXX];(cases vs[o]? with|none=>exact .inl rfl|some _=>exact .inr rfl)
theorem FxH.putNew{τ:TS}{H:TH τ}{r:Nat}{e:TypeId}{vs:List (TV τ)}:FxH H (H.put r (some (.cells e vs (vs.map λ_=>H.q)))):=FxH.put λe' vs' ts o h h0 h1=>by cases h;rcases bQm (vs:=vs) (q:=H.q) (o:=o)with k|k;{exact absurd k h0};{omega}
theorem FxE.put{τ:TS}{E:TE τ}{r:Nat}{t:TV τ}:FxE E (E.put r t):=⟨l9 _,λi h0 h1=>by
 rw[bAm]at h0 h1 ⊢;rw[nO];split at h1;{omega}
 · rename_i e;rw[if_neg e,if_neg e];exact⟨rfl,rfl⟩⟩
theorem cQ{r i:Nat}{t:Option Root}:Heap.get1 ((r,t)::Hp) i=if r=i then t else Hp.get1 i:=rfl
theorem wW{r:Nat}{t:Option (TR τ.toTS)}(h:∀r,tmH H r<H.q):∀i,tmH (H.put r t) i<(H.put r t).q:=λi=>by rw[bEb];show _<H.q+1;split;{omega};{exact Nat.lt_succ_of_lt (h i)}
theorem aWo{i:Nat}{v:TV τ.toTS}(h:∀i,tmE E i<E.q):∀j,tmE (E.put i v) j<(E.put i v).q:=λj=>by rw[bAm];show _<E.q+1;split;{omega};{exact Nat.lt_succ_of_lt (h j)}
theorem FxH.putO{t:Option (TR τ.toTS)}{r:Nat}(h:∀e vs ts,t≠some (.cells e vs ts)):FxH H (H.put r t):=FxH.put λe vs ts _ k=>absurd k (h e vs ts)
theorem Ext.put{r:Nat}{t:Option (TR τ.toTS)}(h:r<n->Ex1 (lkH H r) t):Ext H n (H.put r t):=λq hq=>by rw[aM];split;{rename_i e;subst e;exact h hq};{exact Ex1.refl}
theorem HtOk.set{r:Nat}{t:Option (TR τ.toTS)}(h:HtOk τ H n Hp)(hn:n<=n')(hr:r<n')(he:Ext H n (H.put r t))(ht:∀t',t=some t'->Gds (H.put r t) n' (tvs t')/\aDn τ t'):HtOk τ (H.put r t) n' ((r,t.map (trR τ))::Hp):=by refine⟨λq=>?_,λq t' hq=>?_,λq hq=>?_,wW h.tm⟩;{rw[cQ,aM];split;{rfl};{exact h.heap q}};{rw[aM]at hq;split at hq;{exact ht t' hq};{exact⟨Gds.ext hn he (h.all q t' hq).1,(h.all q t' hq).2⟩}};{rw[aM,if_neg (by omega)];exact h.low q (by omega)}
theorem HtOk.fresh{t:TR τ.toTS}(h:HtOk τ H n Hp)(ht:Gds H n (tvs t)/\aDn τ t):HtOk τ (H.put n (some t)) (n+1) ((n,some (trR τ t))::Hp)/\Ext H n (H.put n (some t)):=by have he:Ext H n (H.put n (some t)):=Ext.put λhc=>absurd hc (Nat.lt_irrefl n);exact⟨h.set (t:=some t) (l9 n) (y8 n) he λt' e=>(by cases e;exact⟨Gds.ext (l9 n) he ht.1,ht.2⟩),he⟩
theorem HtOk.lt{r:Nat}{t:TR τ.toTS}(h:HtOk τ H n Hp)(hr:lkH H r=some t):r<n:=Nat.lt_of_not_le λhc=>by rw[h.low r hc]at hr;cases hr
theorem HtOk.turn{r:Nat}{t:TR τ.toTS}(h:HtOk τ H n Hp)(hr:r<n)(hx:Ex1 (lkH H r) (some t))(ht:Gds H n (tvs t)/\aDn τ t):HtOk τ (H.put r (some t)) n ((r,some (trR τ t))::Hp)/\Ext H n (H.put r (some t)):=by have he:Ext H n (H.put r (some t)):=Ext.put λ_=>hx;exact⟨h.set (t:=some t) (k9 n) hr he λt' e=>(by cases e;exact⟨Gds.ext (k9 n) he ht.1,ht.2⟩),he⟩
theorem HtOk.cellsTurn{r:Nat}{e:TypeId}{vs us:List (TV τ.toTS)}{ts us2:List Nat}(h:HtOk τ H n Hp)(hr:lkH H r=some (.cells e vs ts))(hu:Gds H n us)(hl:us2.length=us.length):HtOk τ (H.put r (some (.cells e us us2))) n ((r,some ⟨e,trs τ us⟩)::Hp)/\Ext H n (H.put r (some (.cells e us us2))):=h.turn (h.lt hr) Ex1.cells ⟨hu,hl⟩
theorem HtOk.rowTurn{r c:Nat}{xs ys:List (τ.T c)}(h:HtOk τ H n Hp)(hr:lkH H r=some (.row c xs))(hl:xs.map (shp τ c)=ys.map (shp τ c)):HtOk τ (H.put r (some (.row c ys))) n ((r,some ⟨τ.tid c,fl (τ.av c) ys⟩)::Hp)/\Ext H n (H.put r (some (.row c ys))):=h.turn (h.lt hr) (by rw[hr];exact Ex1.row hl) ⟨by simp only[tvs,Gds],trivial⟩
theorem HtOk.kill{r:Nat}(h:HtOk τ H n Hp)(hr:r<n):HtOk τ (H.put r none) n ((r,none)::Hp)/\Ext H n (H.put r none):=by have he:Ext H n (H.put r none):=Ext.put λ_=>Ex1.none;exact⟨h.set (t:=none) (k9 n) hr he λt' e=>(by cases e),he⟩
theorem RowLen.put{r c:Nat}{xs:List (τ.T c)}:RowLen (H.put r (some (.row c xs))) r c xs.length:=λp hp=>by rw[aM,if_pos rfl]at hp;simpa[qN]using hp.symm
theorem mV{c:Nat}{xs:List (τ.T c)}:Gds H n (tvs (τ:=τ.toTS) (.row c xs))/\aDn τ (.row c xs):=⟨by simp only[tvs,Gds],trivial⟩
end
def gb{R:Type}(b:Bool)(x:Option R):Option R:=match b with|true=>x|false=>none
theorem aF{R:Type}{b:Bool}{x:Option R}{r:R}(h:gb b x=some r):b=true/\x=some r:=by cases b;{cases h};{exact⟨rfl,h⟩}
def ovl{τ:TS}(E:TE τ):Opd->TV τ
 | .t i=>lkE E i
 | .c v=> .v v
def pZ:AV->Bool
 | .nil| .emp| .bool _| .int _ _=>true
 |_=>false
def bWw:AV->Bool
 | .nil| .emp| .bool _| .int _ _| .ptr _ _ _=>true
 |_=>false
def aLj{τ:TS}:TV τ->Option (List (TV τ))
 | .v x=>match bWw x with|true=>some [.v x]|false=>none
 | .agg vs=>some vs
 | .tup _=>none
 |v=>some [v]
def oki{τ:TS}(off m:Nat)(vs:List (TV τ))(ag:Bool):TV τ:=match ag with
 |true=> .agg ((vs.drop off).take m)
 |false=>vs.getD off (.v .unk)
def setTV{τ:TS}(cs:List (TV τ))(o:Nat):List (TV τ)->List (TV τ)
 |[]=>cs
 |v::vs=>setTV (cs.set o v) (o+1) vs
def sS{τ:TS}(q:Nat)(ts:List Nat)(o:Nat):List (TV τ)->List Nat
 |[]=>ts
 |_::us=>sS q (ts.set o q) (o+1) us
theorem aEs{τ:TS}{q:Nat}:∀{us:List (TV τ)} {ts:List Nat} {o:Nat},(sS q ts o us).length=ts.length
 |[],_,_=>rfl
 |_::us,ts,o=>by simp only[sS];rw[aEs,t7]
theorem setTV_len{τ:TS}:∀{us vs:List (TV τ)} {o:Nat},(setTV vs o us).length=vs.length
 |[],_,_=>rfl
 |_::us,vs,o=>by simp only[setTV];rw[setTV_len,t7]
theorem aHm{τ:TS}{q j:Nat}:∀{us vs:List (TV τ)} {ts:List Nat} {o:Nat},ts.length=vs.length->(sS q ts o us).getD j 0=q\/((sS q ts o us).getD j 0=ts.getD j 0/\(setTV vs o us).getD j (.v .unk)=vs.getD j (.v .unk))
 |[],_,_,_,_=> .inr ⟨rfl,rfl⟩
 |u::us,vs,ts,o,hl=>by simp only[sS,setTV];rcases aHm (q:=q) (j:=j) (us:=us) (vs:=vs.set o u) (ts:=ts.set o q) (o:=o+1) (by rw[t7,t7];exact hl)with h|⟨h1,h2⟩;{exact .inl h};{rw[h1,h2];by_cases e:o=j;{subst e;by_cases hlt:o<ts.length;{left;rw[x6,qXH hlt];rfl};{right;rw[qXY (by omega),qXY (by omega)];exact⟨rfl,rfl⟩}};{right;simp only[x6,List.getElem?_set_ne e];exact⟨trivial,trivial⟩}}
def agB(ag:Bool)(m:Nat):Bool:=ag||f9 m 1
def pO{τ:TS1}(H:TH τ.toTS)(c:Nat):TV τ.toTS->Option (List (τ.T c))
 | .bor c' xs=>if h:c'=c then some (h▸xs)else none
 | .ws r _ _=>match lkH H r with
  |some (.row c' xs)=>gb (τ.pl c) (if h:c'=c then some (h▸xs)else none)
  |_=>none
 | .part r _ i k=>match lkH H r with
  |some (.row c' xs)=>gb (τ.pl c) (if h:c'=c then some (List.take k (List.drop i (h▸xs)))else none)
  |_=>none
 | .x (.nws r _ i o _ _)=>match lkH H r with
  |some (.row c' xs)=>match (encS τ c' (getE τ.toTS c' xs i)).getD o (.v .unk)with
   | .x (.ow c3 ys)=>gb (τ.pl c) (if h:c3=c then some (h▸ys)else none)
   |_=>none
  |_=>none
 | .v .nil=>some []
 | .v .emp=>some []
 |_=>none
section
variable {τ : TS1} {H : TH τ.toTS} {n : Nat} {Hp : Heap} {L : Nat} {E : TE τ.toTS} {env : List AV}
theorem Gd.noOwn1:∀{v:TV τ.toTS},Gd H n v->(tr τ v).node=none
 | .v x,h=>by cases x<;>simp only[Gd,plainV]at h<;>rfl
 | .ws _ _ _,_=>rfl
 | .part _ _ _ _,_=>rfl
 | .elt _ _ _ _,_=>rfl
 | .bor _ _,_=>rfl
 | .bel _ _ _ _,_=>rfl
 | .agg _,_=>rfl
 | .tup _,_=>rfl
 | .bl _ _ _,_=>rfl
 | .x a,h=>by cases a<;>first|rfl|(simp only[Gd,GdN]at h)
theorem Gds.noOwn:∀{vs:List (TV τ.toTS)},Gds H n vs->Go.Proofs.YtcgggihjcelmhaaGreat.noOwn (trs τ vs)=true
 |[],_=>rfl
 |v::vs,h=>by simp only[Gds]at h;simp only[trs];have:=Gd.noOwn1 h.1;simp only[Go.Proofs.YtcgggihjcelmhaaGreat.noOwn,y4,this]at*;simpa[Go.Proofs.YtcgggihjcelmhaaGreat.noOwn]using Gds.noOwn h.2
theorem zD{v:TV τ.toTS}{vs:List (TV τ.toTS)}(h:aLj v=some vs)(hg:Gd H n v):(tr τ v).cells=some (trs τ vs)/\Gds H n vs/\v≠ .v .unk:=by
 cases v<;>simp only[aLj]at h
 case v x=>split at h;{rename_i hx;cases h;cases x<;>simp only[bWw]at hx<;>first|(cases hx;done)|(refine⟨by simp only[tr,trs,AV.cells],by simpa only[Gds,and_true]using hg,λe=>by cases e⟩)};{cases h}
 case agg us=>cases h;exact⟨by simp only[tr,AV.cells],by simpa only[Gd]using hg,λe=>by cases e⟩
 case tup=>cases h
 case x a=>cases h;(cases a with|ow c xs=>simp only[Gd,GdN]at hg|_=>refine⟨by simp only[tr,trs,trN,AV.cells],by simpa only[Gds,and_true]using hg,λe=>by cases e⟩)
 all_goals
  cases h;refine⟨by simp only[tr,trs,AV.cells],by simpa only[Gds,and_true]using hg,λe=>by cases e⟩
theorem bCw{j:Nat}:∀{us vs:List (TV τ.toTS)} {o:Nat},(setTV vs o us).getD j (.v .unk)=vs.getD j (.v .unk)\/∃u∈us,(setTV vs o us).getD j (.v .unk)=u
 |[],_,_=> .inl rfl
 |u::us,vs,o=>by simp only[setTV];rcases bCw (j:=j) (us:=us) (vs:=vs.set o u) (o:=o+1)with h|⟨w,h1,h2⟩;{rw[h];by_cases e:o=j/\o<vs.length;{obtain⟨e1,e2⟩:=e;subst e1;right;refine⟨u,by simp,?_⟩;rw[x6,qXH e2];rfl};{left;by_cases e1:o=j;{rw[qXY (by omega)]};{simp only[x6,List.getElem?_set_ne e1]}}};{exact .inr ⟨w,m8 _ h1,h2⟩}
theorem xU:∀{us vs:List (TV τ.toTS)} {o:Nat},trs τ (setTV vs o us)=aT (trs τ vs) o (trs τ us)
 |[],_,_=>rfl
 |u::us,vs,o=>by simp only[setTV,trs,aT];rw[xU,aWu]
theorem Gds.set{vs:List (TV τ.toTS)}{o:Nat}{v:TV τ.toTS}(h:Gds H n vs)(hv:Gd H n v):Gds H n (vs.set o v):=Gds.all.2 λx hx=>(List.mem_or_eq_of_mem_set hx).elim (Gds.all.1 h x) λe=>e▸hv
theorem Gds.setTV:∀{us vs:List (TV τ.toTS)} {o:Nat},Gds H n vs->Gds H n us->Gds H n (setTV vs o us)
 |[],_,_,h,_=>h
 |u::us,vs,o,h,hu=>by simp only[Gds]at hu;have:=Gds.setTV (o:=o+1) (Gds.set (o:=o) h hu.1) hu.2;exact this
theorem aLt{ag:Bool}{o m:Nat}{vs:List (TV τ.toTS)}(h:o+m<=vs.length)(ha:agB ag m=true)(hg:Gds H n vs):tr τ (oki o m vs ag)=bY ag (trs τ vs) o m/\Gd H n (oki o m vs ag):=by cases ag;{have hm:m=1:=(by simpa[agB]using ha);exact⟨by simp only[oki,bY];rw[pE (by omega)],hg.getD⟩};{refine⟨by simp only[oki,bY,tr,aFs,List.map_take,List.map_drop],?_⟩;simp only[oki,Gd];exact Gds.all.2 λx hx=>Gds.all.1 hg x (List.mem_of_mem_drop (List.mem_of_mem_take hx))}
def bVf{R:Type}(op:BinOp)(k:IntKind)(a b:Int)(K:AV->Option R):Option R:=match op with
 | .add=>K (.int k (k.wrap (a+b)))
 | .sub=>K (.int k (k.wrap (a-b)))
 | .mul=>K (.int k (k.wrap (a*b)))
 | .and=>K (.int k (bits .and k a b))
 | .or=>K (.int k (bits .or k a b))
 | .xor=>K (.int k (bits .xor k a b))
 | .andNot=>K (.int k (bits .andNot k a b))
 | .quo=>grd (b≠0) (K (.int k (k.wrap (a.tdiv b))))
 | .rem=>grd (b≠0) (K (.int k (a.tmod b)))
 | .eql=>K (.bool (decide (a=b)))
 | .neq=>K (.bool (!decide (a=b)))
 | .lss=>K (.bool (decide (a<b)))
 | .leq=>K (.bool (decide (a<=b)))
 | .gtr=>K (.bool (decide (b<a)))
 | .geq=>K (.bool (decide (b<=a)))
 |_=>none
theorem bYq{R:Type}{op:BinOp}{k:IntKind}{a b:Int}{K:AV->Option R}{Kp:AV->Prop}{r:R}(h:bVf op k a b K=some r)(hK:∀x,K x=some r->plainV 0 x->Kp x):uX op k a b Kp:=by
 cases op<;>simp only[bVf]at h<;>simp only[uX]
 case quo=>exact⟨(bD h).1,hK _ (bD h).2 (by simp only[plainV])⟩
 case rem=>exact⟨(bD h).1,hK _ (bD h).2 (by simp only[plainV])⟩
 all_goals first
  |(cases h;done)
  |exact hK _ h (by simp only[plainV])
end
def atV{τ:TS}(r c i o:Nat):TV τ->TV τ
 | .x (.ow c2 xs)=> .x (.nws r c i o c2 xs.length)
 |v=>v
def atL{τ:TS}(r c i:Nat):Nat->List (TV τ)->List (TV τ)
 |_,[]=>[]
 |o,v::vs=>atV r c i o v::atL r c i (o+1) vs
def bKl{R:Type}(i:Nat):List (Nat×Nat)->Option R->Option R
 |[],x=>x
 |h::hs,x=>grd (h.1=i) (bKl i hs x)
theorem aYn{R:Type}{r:R}{i:Nat}{x:Option R}:∀{hs:List (Nat×Nat)},bKl i hs x=some r->(∀h∈hs,h.1=i)/\x=some r
 |[],h=>⟨λp hp=>(by cases hp),h⟩
 |p::ps,h=>by obtain⟨h1,h2⟩:=bD (show grd (p.1=i) (bKl i ps x)=some r from h);obtain⟨h3,h4⟩:=aYn h2;exact⟨λq hq=>(g8.1 hq).elim (λe=>by rw[e];exact h1) (h3 q),h4⟩
def aZu(τ:TS1){R:Type}(H:TH τ.toTS)(ag:Bool)(m:Nat)(K:TV τ.toTS->Option R):TV τ.toTS->Option R
 | .v (.ptr r [] o)=>match lkH H r with
  |some (.cells _ vs _)=>gb (qZH (o+m) vs.length&&agB ag m) (K (oki o m vs ag))
  |_=>none
 | .elt r _ i off=>match lkH H r with
  |some (.row c xs)=>gb (qZH (off+m) (τ.sz c)&&agB ag m&&τ.el c) (K (oki off m (atL r c i 0 (encS τ c (@List.getD _ xs i (τ.inh c).default))) ag))
  |_=>none
 | .x (.nelt r _ i o _ j off)=>match lkH H r with
  |some (.row c xs)=>match (encS τ c (@List.getD _ xs i (τ.inh c).default)).getD o (.v .unk)with
   | .x (.ow c3 ys)=>gb (qZH (off+m) (τ.sz c3)&&agB ag m&&τ.pl c3) (K (oki off m (encS τ c3 (@List.getD _ ys j (τ.inh c3).default)) ag))
   |_=>none
  |_=>none
 | .bel c xs i off=>gb (qZH (off+m) (τ.sz c)&&agB ag m) (K (oki off m (encS τ c (@List.getD _ xs i (τ.inh c).default)) ag))
 |_=>none
def bLv(τ:TS1){R:Type}(sz:Nat)(K:TV τ.toTS->Option R):TV τ.toTS->TV τ.toTS->Option R
 | .ws r c m,.v (.int _ k)=>gb (f9 sz (τ.sz c)) (grd (0<=k/\k<(m:Int)) (K (.elt r c k.toNat 0)))
 | .bor c xs,.v (.int _ k)=>gb (f9 sz (τ.sz c)) (grd (0<=k/\k<(xs.length:Int)) (K (.bel c xs k.toNat 0)))
 | .x (.nws r c i o c2 m),.v (.int _ k)=>gb (f9 sz (τ.sz c2)) (grd (0<=k/\k<(m:Int)) (K (.x (.nelt r c i o c2 k.toNat 0))))
 |_,_=>none
def unF{τ:TS}:(a:Lf)->TV τ->Option (a.T τ)
 | .i k,.v (.int k' z)=>gb (decide (k'=k)) (some z)
 | .b,.v (.bool t)=>some t
 | .row c,.bor c' xs=>if h:c'=c then some (h▸xs)else none
 | .own c,.x (.ow c' xs)=>if h:c'=c then some (h▸xs)else none
 |_,_=>none
def unL{τ:TS}:(l:List Lf)->List (TV τ)->Option (Tup τ l)
 |[],[]=>some ()
 |[a],[v]=>unF a v
 |a::b::l,v::vs=>match unF a v with
  |some x=>match unL (b::l) vs with
   |some t=>some (x,t)
   |none=>none
  |none=>none
 |_,_=>none
theorem bOl{τ:TS}{a:Lf}{v:TV τ}{x:a.T τ}(h:unF a v=some x):cO τ a x=v:=by unfold unF at h;split at h;{obtain⟨hb,h⟩:=aF h;cases h;have:=of_decide_eq_true hb;subst this;rfl};{cases h;rfl};{split at h;{rename_i e;subst e;cases h;rfl};{cases h}};{split at h;{rename_i e;subst e;cases h;rfl};{cases h}};{cases h}
theorem wJ{τ:TS}:∀(l:List Lf) (vs:List (TV τ)) (t:Tup τ l),unL l vs=some t->cB τ l t=vs
 |[],[],t,h=>rfl
 |[],_::_,t,h=>by cases h
 |[a],[],t,h=>by cases h
 |[a],[v],t,h=>by simp only[unL]at h;simp only[cB];rw[bOl h]
 |[a],v::w::vs,t,h=>by cases h
 |a::b::l,[],t,h=>by cases h
 |a::b::l,v::vs,t,h=>by simp only[unL]at h;split at h;{rename_i x hx;split at h;{rename_i u hu;cases h;simp only[cB];rw[bOl hx,wJ (b::l) vs u hu]};{cases h}};{cases h}
def aHq{τ:TS}(E:TE τ)(cs:List (TV τ)):List (Nat×Nat×Opd)->Option (List (TV τ))
 |[]=>some cs
 |(off,sz,x)::ps=>match aLj (ovl E x)with
  |some vs=>gb (f9 vs.length sz&&qZH (off+sz) cs.length) (aHq E (setTV cs off vs) ps)
  |none=>none
def aIg{τ:TS}(z:List (TV τ)):Nat->List (TV τ)
 |0=>[]
 |k+1=>z++aIg z k
def aBv(τ:TS1)(c:Nat):Nat->List (TV τ.toTS)->Option (List (τ.T c))
 |0,[]=>some []
 |0,_::_=>none
 |k+1,vs=>match unL (τ.lf c) (vs.take (τ.sz c))with
  |some t=>match aBv τ c k (vs.drop (τ.sz c))with
   |some xs=>some (τ.mkS c t::xs)
   |none=>none
  |none=>none
def dBd{τ:TS}(E:TE τ):Option Opd->Int->Option Int
 |none,d=>some d
 |some x,_=>match ovl E x with
  | .v (.int _ z)=>some z
  |_=>none
def dEq{τ:TS}(xs ys:List (TV τ)):List (Nat×Bool)->Option Bool
 |[]=>some true
 |(o,t)::os=>match t with
  |false=>match xs.getD o (.v .unk),ys.getD o (.v .unk)with
   | .v (.int k a),.v (.int k' b)=>match dEq xs ys os with
    |some r=>gb (decide (k=k')) (some (decide (a=b)&&r))
    |none=>none
   |_,_=>none
  |true=>match xs.getD o (.v .unk),ys.getD o (.v .unk)with
   | .v (.bool a),.v (.bool b)=>match dEq xs ys os with
    |some r=>some ((a==b)&&r)
    |none=>none
   |_,_=>none
def aMg(τ:TS1)(e sz:Nat):Bool:=f9 (τ.tid e) e&&f9 sz (τ.sz e)
mutual
def bC{τ:TS}:TV τ->List Nat
 | .bl _ _ vs=>iE vs
 | .x (.nws r _ _ _ _ _)=>[r]
 | .x (.nelt r _ _ _ _ _ _)=>[r]
 | .x (.wc r _ _)=>[r]
 | .v (.ptr r _ _)=>[r]
 | .ws r _ _=>[r]
 | .part r _ _ _=>[r]
 | .elt r _ _ _=>[r]
 | .agg vs=>iE vs
 | .tup vs=>iE vs
 |_=>[]
def iE{τ:TS}:List (TV τ)->List Nat
 |[]=>[]
 |v::vs=>bC v++iE vs
end
def trn{τ:TS}(E:TE τ):LOp->List Nat
 | .store _ a _=>bC (ovl E a)
 | .app _ _ _ _ s _=>bC (ovl E s)
 | .cpy _ d _=>bC (ovl E d)
 |_=>[]
def aZh(τ:TS1){R:Type}(H:TH τ.toTS)(n:Nat)(K:TV τ.toTS->TH τ.toTS->Nat->Option R)(e sz bytes m:Nat)(us:List (TV τ.toTS)):TV τ.toTS->Option R
 | .v .nil=>gb (qZH (m*bytes) (2^47)&&qZH m (2^47)) (K (.x (.wc n e m)) (H.put n (some (.cells e us (us.map λ_=>H.q)))) (n+1))
 | .v .emp=>gb (qZH (m*bytes) (2^47)&&qZH m (2^47)) (K (.x (.wc n e m)) (H.put n (some (.cells e us (us.map λ_=>H.q)))) (n+1))
 | .ws r c k=>match lkH H r with
  |some (.row c' xs)=>gb (f9 c' (τ.ow e)&&f9 (τ.tid c') e&&f9 (τ.sz c') sz) (grd ((x9 (α:=τ.T c') xs+m)*bytes<=2^47/\x9 (α:=τ.T c') xs+m<=2^47) (K (.ws n c' (x9 (α:=τ.T c') xs+m)) ((H.put r none).put n (some (.pap c' xs us m))) (n+1)))
  |_=>none
 |_=>none
def cCm(τ:TS1){R:Type}(H:TH τ.toTS)(n:Nat)(K:TV τ.toTS->TH τ.toTS->Nat->Option R)(r i off m:Nat)(us:List (TV τ.toTS)):Option (TR τ.toTS)->Option R
 |some (.row c xs)=>gb (f9 us.length m&&qZH (off+m) (τ.sz c)) (match unL (τ.lf c) (setTV (encS τ c (@List.getD _ xs i (τ.inh c).default)) off us)with
  |some t=>K (.v .und) (H.put r (some (.row c (xs.set i (τ.mkS c t))))) n
  |none=>gb (!(τ.pl c)) (K (.v .und) (H.put r (some (.pst c xs i off us))) n))
 |some (.hol c xs hs)=>gb (f9 us.length m&&qZH (off+m) (τ.sz c)&&!hs.isEmpty&&hs.all (λh=>qZH off h.2&&Nat.blt h.2 (off+m))) (bKl i hs (K (.v .und) (H.put r (some (.pst c xs i off us))) n))
 |_=>none
def dop(τ:TS1){R:Type}(E:TE τ.toTS)(H:TH τ.toTS)(n:Nat)(K:TV τ.toTS->TH τ.toTS->Nat->Option R):LOp->Option R
 | .mv x=>K (ovl E x) H n
 | .box e x=>match aLj (ovl E x)with
  |some vs=>K (.v (.ptr n [] 0)) (H.put n (some (.cells e vs (vs.map λ_=>H.q)))) (n+1)
  |none=>none
 | .fresh e z=>gb (z.all pZ) (K (.v (.ptr n [] 0)) (H.put n (some (.cells e (z.map .v) ((z.map (TV.v (τ:=τ.toTS))).map λ_=>H.q)))) (n+1))
 | .pick c a b=>match ovl E c with
  | .v (.bool t)=>cond t (K (ovl E a) H n) (K (ovl E b) H n)
  |_=>none
 | .load ag m a=>aZu τ H ag m (λv=>K v H n) (ovl E a)
 | .store m a x=>match ovl E a,aLj (ovl E x)with
  | .v (.ptr r [] o),some us=>match lkH H r with
   |some (.cells e vs ts)=>gb (f9 us.length m&&qZH (o+m) vs.length) (K (.v .und) (H.put r (some (.cells e (setTV vs o us) (sS H.q ts o us)))) n)
   |_=>none
  | .elt r _ i off,some us=>cCm τ H n K r i off m us (lkH H r)
  | .x (.nelt r _ i o _ j off),some us=>match lkH H r with
   |some (.row c xs)=>match (encS τ c (@List.getD _ xs i (τ.inh c).default)).getD o (.v .unk)with
    | .x (.ow c3 ys)=>gb (f9 us.length m&&qZH (off+m) (τ.sz c3)&&τ.pl c3) (match unL (τ.lf c3) (setTV (encS τ c3 (@List.getD _ ys j (τ.inh c3).default)) off us)with
     |some t=>match unL (τ.lf c) ((encS τ c (@List.getD _ xs i (τ.inh c).default)).set o (.x (.ow c3 (ys.set j (τ.mkS c3 t)))))with
      |some t2=>K (.v .und) (H.put r (some (.row c (xs.set i (τ.mkS c t2))))) n
      |none=>none
     |none=>none)
    |_=>none
   |_=>none
  |_,_=>none
 | .bin op x y=>match ovl E x,ovl E y with
  | .v (.int k a),.v (.int k' b)=>gb (decide (k=k')) (bVf op k a b λv=>K (.v v) H n)
  |_,_=>none
 | .binb ng x y=>match ovl E x,ovl E y with
  | .v (.bool a),.v (.bool b)=>K (.v (.bool (match ng with|true=>!(a==b)|false=>a==b))) H n
  |_,_=>none
 | .un op x=>match op,ovl E x with
  | .not,.v (.bool b)=>K (.v (.bool (!b))) H n
  | .neg,.v (.int k a)=>K (.v (.int k (k.wrap (0-a)))) H n
  |_,_=>none
 | .cvt k x=>match ovl E x with
  | .v (.int _ z)=>K (.v (.int k (k.wrap z))) H n
  |_=>none
 | .fadr off x=>match ovl E x with
  | .v (.ptr r [] o)=>K (.v (.ptr r [] (o+off))) H n
  | .elt r c i o=>K (.elt r c i (o+off)) H n
  | .bel c xs i o=>K (.bel c xs i (o+off)) H n
  | .x (.nelt r c i o c2 j f)=>K (.x (.nelt r c i o c2 j (f+off))) H n
  |_=>none
 | .fld ag off m x=>match ovl E x with
  | .agg vs=>gb (qZH (off+m) vs.length&&agB ag m) (K (oki off m vs ag) H n)
  |_=>none
 | .iadr sz x i=>bLv τ sz (λv=>K v H n) (ovl E x) (ovl E i)
 | .ext x i=>match ovl E x with
  | .tup vs=>gb (qZH (i+1) vs.length) (K (vs.getD i (.v .unk)) H n)
  |_=>none
 | .len x=>match ovl E x with
  | .ws _ _ m=>K (.v (.int .i64 m)) H n
  | .bor _ xs=>K (.v (.int .i64 xs.length)) H n
  | .x (.nws _ _ _ _ _ m)=>K (.v (.int .i64 m)) H n
  | .v .nil=>K (.v (.int .i64 0)) H n
  | .v .emp=>K (.v (.int .i64 0)) H n
  |_=>none
 | .nck x=>match ovl E x with
  | .v (.ptr r [] o)=>K (.v (.ptr r [] o)) H n
  | .bel c xs i o=>K (.bel c xs i o) H n
  | .elt r c i o=>K (.elt r c i o) H n
  | .x (.nelt r c i o c2 j f)=>K (.x (.nelt r c i o c2 j f)) H n
  |_=>none
 | .mx most x y=>match ovl E x,ovl E y with
  | .v (.int k a),.v (.int k' b)=>gb (decide (k=k')) (K (.v (.int k (match most with|true=>max a b|false=>min a b))) H n)
  |_,_=>none
 | .sh left x y=>match ovl E x,ovl E y with
  | .v (.int k a),.v (.int _ b)=>grd (0<=b) (K (.v (.int k (match left with|true=>k.wrap (a*2^(min b.toNat k.bits))|false=>a.fdiv (2^(min b.toNat k.bits))))) H n)
  |_,_=>none
 | .beq ng offs x y=>match ovl E x,ovl E y with
  | .agg xs,.agg ys=>match dEq xs ys offs with
   |some r=>K (.v (.bool (match ng with|true=>!r|false=>r))) H n
   |none=>none
  |_,_=>none
 | .bld z ps=>gb (z.all pZ) (match aHq E (z.map .v) ps with
  |some cs=>K (.agg cs) H n
  |none=>none)
 | .bsl e sz m z ps=>gb (z.all pZ&&aMg τ e sz) (match aHq E (aIg (z.map .v) m) ps with
  |some cs=>match aBv τ e m cs with
   |some xs=>K (.ws n e (x9 (α:=τ.T e) xs)) (H.put n (some (.row e xs))) (n+1)
   |none=>K (.x (.wc n e m)) (H.put n (some (.cells e cs (cs.map λ_=>H.q)))) (n+1)
  |none=>none)
 | .mk e sz bytes z l=>match ovl E l with
  | .v (.int .i64 k)=>gb (z.all pZ&&aMg τ e sz) (match unL (τ.lf e) (z.map .v)with
   |some t=>grd (0<=k/\k*bytes<=2^47/\k<=2^47) (K (.ws n e (x9 (j0 k.toNat (τ.mkS e t)))) (H.put n (some (.row e (j0 k.toNat (τ.mkS e t))))) (n+1))
   |none=>gb (f9 (τ.tid (τ.ow e)) e&&f9 (τ.sz (τ.ow e)) sz&&f9 z.length sz) (grd (0<=k/\k*bytes<=2^47/\k<=2^47) (K (.ws n (τ.ow e) k.toNat) (H.put n (some (.pmk (τ.ow e) k.toNat (z.map .v)))) (n+1))))
  |_=>none
 | .slc sz x lo hi=>match dBd E lo 0 with
  |some l=>match ovl E x with
   | .v .nil=>match dBd E hi 0 with
    |some h=>grd (l=0/\h=0) (K (.v .nil) H n)
    |none=>none
   | .bor c xs=>match dBd E hi (x9 (α:=τ.T c) xs)with
    |some h=>gb (f9 sz (τ.sz c)) (grd (0<=l/\l<=h/\h<=(x9 (α:=τ.T c) xs:Int)) (K (.bor c (List.take (h.toNat-l.toNat) (List.drop l.toNat xs))) H n))
    |none=>none
   | .ws r c m=>match dBd E hi m with
    |some h=>gb (f9 sz (τ.sz c)) (grd (0<=l/\l<=h/\h<=(m:Int)) (K (.part r c l.toNat (h.toNat-l.toNat)) H n))
    |none=>none
   | .part r c i m=>match dBd E hi m with
    |some h=>gb (f9 sz (τ.sz c)) (grd (0<=l/\l<=h/\h<=(m:Int)) (K (.part r c (i+l.toNat) (h.toNat-l.toNat)) H n))
    |none=>none
   |_=>none
  |none=>none
 | .app e sz bytes _ s x=>match ovl E x with
  | .x (.wc r2 e2 m)=>match lkH H r2 with
   |some (.cells _ us _)=>gb (aMg τ e sz&&f9 e2 e&&f9 us.length (m*sz)) (aZh τ H n K e sz bytes m us (ovl E s))
   |_=>none
  | .bl e2 m us=>gb (aMg τ e sz&&f9 e2 e&&f9 us.length (m*sz)) (aZh τ H n K e sz bytes m us (ovl E s))
  |w=>match pO H e w with
   |some ys=>gb (aMg τ e sz) (match ovl E s with
    | .v .nil=>grd (x9 (α:=τ.T e) ys*bytes<=2^47/\x9 (α:=τ.T e) ys<=2^47) (K (.ws n e (x9 (α:=τ.T e) ys)) (H.put n (some (.row e ys))) (n+1))
    | .v .emp=>grd (x9 (α:=τ.T e) ys*bytes<=2^47/\x9 (α:=τ.T e) ys<=2^47) (K (.ws n e (x9 (α:=τ.T e) ys)) (H.put n (some (.row e ys))) (n+1))
    | .ws r c k=>match pO H e (.ws r c k)with
     |some xs=>grd ((x9 (α:=τ.T e) xs+x9 (α:=τ.T e) ys)*bytes<=2^47/\x9 (α:=τ.T e) xs+x9 (α:=τ.T e) ys<=2^47) (K (.ws n e (x9 (α:=τ.T e) (xs++ys))) ((H.put r none).put n (some (.row e (xs++ys)))) (n+1))
     |none=>none
    |_=>none)
   |none=>none
 | .cpy sz d s=>match ovl E d with
  | .ws r c k=>match pO H c (.ws r c k),pO H c (ovl E s)with
   |some xs,some ys=>gb (f9 sz (τ.sz c)) (K (.v (.int .i64 ((min k (x9 (α:=τ.T c) ys):Nat):Int))) (H.put r (some (.row c (over xs 0 k ys)))) n)
   |_,_=>none
  | .part r c i k=>match pO H c (.ws r c k),pO H c (ovl E s)with
   |some xs,some ys=>gb (f9 sz (τ.sz c)) (K (.v (.int .i64 ((min k (x9 (α:=τ.T c) ys):Nat):Int))) (H.put r (some (.row c (over xs i k ys)))) n)
   |_,_=>none
  |_=>none
 |_=>none
structure Chg {τ : TS} (qt : Bool) (tn : List Nat) (H : TH τ) (n : Nat) (Hp : Heap) (H' : TH τ) (n' : Nat) (Hp' : Heap) : Prop where
 q:qt=true->H'=H/\n'=n/\Hp'=Hp
 old:∀i,i<n->i∉tn->Hp'.get1 i=Hp.get1 i
theorem Chg.same{τ:TS}{qt:Bool}{tn:List Nat}{H:TH τ}{n:Nat}{Hp:Heap}:Chg qt tn H n Hp H n Hp:=⟨λ_=>⟨rfl,rfl,rfl⟩,λ_ _ _=>rfl⟩
abbrev KtOk(τ:TS1){R:Type}(H:TH τ.toTS)(n:Nat)(Hp:Heap)(qt:Bool)(tn:List Nat)(K:TV τ.toTS->TH τ.toTS->Nat->Option R)(Kp:AV->Heap->Nat->Prop)(r:R):Prop:=∀v a H' n' Hp',K v H' n'=some r->(v= .v .unk\/a=tr τ v)->n<=n'->Ext H n H'->FxH H H'->HtOk τ H' n' Hp'->Gd H' n' v->Chg qt tn H n Hp H' n' Hp'->Kp a Hp' n'
section
variable {τ : TS2} {R : Type} {r : R} {P : Program} {H : TH τ.toTS} {n : Nat} {Hp : Heap} {L : Nat} {E : TE τ.toTS} {env : List AV} {K : TV τ.toTS → TH τ.toTS → Nat → Option R} {Kp : AV → Heap → Nat → Prop}
theorem cA(he:EOk τ.toTS1 L E H n env)(x:Opd)(hx:∀v,x= .c v->pZ v=true):(ovl E x= .v .unk\/x.val env=tr τ.toTS1 (ovl E x))/\Gd H n (ovl E x):=by
 cases x with
 |t i=>exact⟨he.env i,he.good i⟩
 |c v=>refine⟨.inr (by simp only[ovl,tr,Opd.val]),?_⟩;have:=hx v rfl;cases v<;>simp only[pZ]at this<;>first|(cases this;done)|simp only[ovl,Gd,plainV]
theorem dS{r:Nat}{t:TR τ.toTS}(hh:HtOk τ.toTS1 H n Hp)(h:lkH H r=some t):Hp.get r []=some (trR τ.toTS1 t):=by simp only[Heap.get];rw[hh.heap,h];rfl
theorem bGo:∀(a:Lf) (x:a.T τ.toTS),plL τ.toTS a=true->Gd H n (cO τ.toTS a x)
 | .i _,_,_=>by simp only[cO,Gd,plainV]
 | .b,_,_=>by simp only[cO,Gd,plainV]
 | .row _,_,h=>by simp only[cO,Gd];exact h
 | .own _,_,h=>by cases h
theorem oT:∀(l:List Lf) (t:Tup τ.toTS l),l.all (plL τ.toTS)=true->Gds H n (cB τ.toTS l t)
 |[],_,_=>by simp only[cB,Gds]
 |[a],x,h=>by simp only[y4,o4,e9]at h;simp only[cB,Gds];exact⟨bGo a x h,trivial⟩
 |a::b::l,p,h=>by rw[y4,x5]at h;simp only[cB];unfold Gds;exact⟨bGo a p.1 h.1,oT (b::l) p.2 h.2⟩
theorem xB{c:Nat}(hp:τ.pl c=true)(x:τ.T c):noOwn (τ.av c x)=true:=by rw[τ.avE];exact Gds.noOwn (H:=⟨[],0⟩) (n:=0) (oT _ _ (τ.plf c hp))
theorem bHz{c:Nat}{x:τ.T c}{ag:Bool}{off m:Nat}(hp:τ.pl c=true)(hb:off+m<=τ.sz c)(ha:agB ag m=true):tr τ.toTS1 (oki off m (encS τ.toTS1 c x) ag)=bY ag (τ.av c x) off m/\Gd H n (oki off m (encS τ.toTS1 c x) ag):=by rw[τ.avE];exact aLt (by rw[fT];exact hb) ha (oT _ _ (τ.plf c hp))
theorem pV{c o c2:Nat}{x:τ.T c}{ys:List (τ.T c2)}(h:(encS τ.toTS1 c x).getD o (.v .unk)= .x (.ow c2 ys)):(τ.lf c)[o]? =some (.own c2)/\o<τ.sz c:=by
 have ho:o<(τ.lf c).length:=Nat.lt_of_not_le λhc=>by rw[x6,qQH (by rw[fT];exact hc)]at h;cases h
 obtain⟨a,z,h1,h2⟩:=aFr _ (τ.prj c x) o ho;have h:(cB τ.toTS (τ.lf c) (τ.prj c x)).getD o (.v .unk)= .x (.ow c2 ys):=h;rw[h2]at h;cases a<;>simp only[cO]at h<;>first|(cases h;done)|(cases h;exact⟨h1,ho⟩)
theorem vJ{c o c2:Nat}{x:τ.T c}{ys:List (τ.T c2)}(h:(encS τ.toTS1 c x).getD o (.v .unk)= .x (.ow c2 ys)):(shp τ.toTS1 c x).getD o 0=ys.length:=by have ho:=(pV h).2;have ho2:o<(encS τ.toTS1 c x).length:=(by rw[fT];exact ho);rw[x6,y9 ho2]at h;simp only[qXK]at h;simp only[shp,x6,qXX,y9 ho2,Option.map_some,qXK];rw[h];rfl
theorem aFp{c o c2:Nat}{x:τ.T c}{ys:List (τ.T c2)}(h:(encS τ.toTS1 c x).getD o (.v .unk)= .x (.ow c2 ys)):(τ.av c x).getD o .unk= .own (τ.tid c2) (τ.sz c2) ys.length (fl (τ.av c2) ys):=by have ho:=(pV h).2;rw[τ.avE,pE (by rw[fT];exact ho),h];simp only[tr,trN]
theorem bDb{τ:TS}{r c i:Nat}:∀{vs:List (TV τ)} {o j:Nat},j<vs.length->(atL r c i o vs).getD j (.v .unk)=atV r c i (o+j) (vs.getD j (.v .unk))
 |[],o,j,h=>absurd h (Nat.not_lt_zero j)
 |v::vs,o,0,_=>rfl
 |v::vs,o,j+1,h=>by simp only[atL,List.getD_cons_succ];rw[bDb (by simpa using h)];congr 1;omega
theorem aNr{τ:TS}{r c i:Nat}:∀{vs:List (TV τ)} {o:Nat},(atL r c i o vs).length=vs.length
 |[],_=>rfl
 |v::vs,o=>by simp only[atL,y7,aNr]
theorem bRm{r c i o:Nat}:∀(a:Lf) (z:a.T τ.toTS),tr τ.toTS1 (atV r c i o (cO τ.toTS a z))=(tr τ.toTS1 (cO τ.toTS a z)).at r [] (i*τ.sz c+o)
 | .i _,_=>by simp only[cO,atV,tr,AV.at]
 | .b,_=>by simp only[cO,atV,tr,AV.at]
 | .row _,_=>by simp only[cO,atV,tr,AV.at]
 | .own _,_=>by simp only[cO,atV,tr,trN,AV.at]
theorem bQl{r c i:Nat}:∀(l:List Lf) (t:Tup τ.toTS l) (o:Nat),trs τ.toTS1 (atL r c i o (cB τ.toTS l t))=refer r [] (i*τ.sz c+o) (trs τ.toTS1 (cB τ.toTS l t))
 |[],_,_=>rfl
 |[a],x,o=>by simp only[cB,atL,trs,refer,bRm]
 |a::b::l,p,o=>by simp only[cB,atL,trs,refer,bRm,bQl (b::l) p.2 (o+1),m4]
theorem cAs{r c i:Nat}{xs:List (τ.T c)}(he:τ.el c=true)(hr:lkH H r=some (.row c xs))(hn:r<n)(hi:i<xs.length):Gds H n (atL r c i 0 (encS τ.toTS1 c (getE τ.toTS c xs i))):=by refine Gds.all.2 λv hv=>?_;obtain⟨j,hj,e⟩:=List.getElem_of_mem hv;rw[aNr,fT]at hj;have e1:(atL r c i 0 (encS τ.toTS1 c (getE τ.toTS c xs i))).getD j (.v .unk)=v:=(by rw[x6,y9 (by rw[aNr,fT];exact hj),e];rfl);rw[bDb (by rw[fT];exact hj),p9]at e1;obtain⟨a,z,h1,h2⟩:=aFr _ (τ.prj c (getE τ.toTS c xs i)) j hj;have h2':(encS τ.toTS1 c (getE τ.toTS c xs i)).getD j (.v .unk)=cO τ.toTS a z:=h2;rw[h2']at e1;subst e1;have hel:=w5.1 (τ.elf c he) a (List.mem_of_getElem? h1);(cases a with|i k=>simp only[cO,atV,Gd,plainV]|b=>simp only[cO,atV,Gd,plainV]|row d=>simpa only[cO,atV,Gd,elL]using hel|own d=>simp only[cO,atV,Gd,GdN];refine⟨hn,h1,λc' ys hy=>?_⟩;rw[hr]at hy;rcases hy with hy|⟨_,hy⟩<;>cases hy;exact⟨rfl,hi,vJ h2'⟩)
theorem bYb{r c i:Nat}{xs:List (τ.T c)}{ag:Bool}{off m:Nat}(he:τ.el c=true)(hr:lkH H r=some (.row c xs))(hn:r<n)(hi:i<xs.length)(hb:off+m<=τ.sz c)(ha:agB ag m=true):
 tr τ.toTS1 (oki off m (atL r c i 0 (encS τ.toTS1 c (getE τ.toTS c xs i))) ag)=bY ag (refer r [] 0 (fl (τ.av c) xs)) (i*τ.sz c+off) m/\Gd H n (oki off m (atL r c i 0 (encS τ.toTS1 c (getE τ.toTS c xs i))) ag):=by
 obtain⟨h1,h2⟩:=aLt (τ:=τ.toTS1) (ag:=ag) (o:=off) (m:=m) (vs:=atL r c i 0 (encS τ.toTS1 c (getE τ.toTS c xs i))) (by rw[aNr,fT];exact hb) ha (cAs he hr hn hi);refine⟨h1.trans ?_,h2⟩;rw[bQl,qZU];have ex:trs τ.toTS1 (cB τ.toTS (τ.lf c) (τ.prj c (getE τ.toTS c xs i)))=τ.av c (getE τ.toTS c xs i):=(τ.avE _ _).symm;rw[ex]
 letI:=τ.inh c
 (cases ag with|false=>have:m=1:=(by simpa[agB]using ha);subst this;simp only[bY];rw[eS,eS,p9,vO (bJ c) hi (by omega)]|true=>simp only[bY];rw[aBi,xC,aBi,xC,p9,aTv (bJ c) hi hb])
theorem vU{ag:Bool}{m:Nat}(h:agB ag m=true):ag=false->m=1:=λe=>by subst e;simpa[agB]using h
theorem bTt {ag:Bool} {m:Nat} {v:TV τ.toTS} {a:Opd} {K:TV τ.toTS->Option R} (h:aZu τ.toTS1 H ag m K v=some r) (hv:v= .v .unk\/a.val env=tr τ.toTS1 v) (hg:Gd H n v) (hh:HtOk τ.toTS1 H n Hp)
 {Kp:AV->Heap->Nat->Prop} (hK:∀v a,K v=some r->a=tr τ.toTS1 v->Gd H n v->Kp a Hp n):xop P env Hp n Kp (.load ag m a):=by
 unfold aZu at h;split at h;{rename_i r0 o;split at h;{rename_i e vs ts hr;obtain⟨hb,h⟩:=aF h;simp only[x5,qQV]at hb;have ea:a.val env= .ptr r0 [] o:=hv.elim (λe=>by cases e) (λe=>by simpa only[tr]using e);have hvs:=(hh.cells _ _ _ _ hr).1;obtain⟨h1,h2⟩:=aLt hb.1 hb.2 hvs;simp only[xop,ea,dS hh hr,trR,cC];refine⟨hb.1,vU hb.2,?_⟩;rw[iF hvs.noOwn];exact hK _ _ h h1.symm h2};{cases h}}
 · rename_i r0 c0 i off
   split at h
   · rename_i c xs hr
     obtain⟨hb,h⟩:=aF h;simp only[x5,qQV]at hb;simp only[Gd]at hg;obtain⟨hrn,k,hik,hrl⟩:=hg;obtain⟨rfl,hl⟩:=hrl.row hr;have ea:a.val env= .ptr r0 [] (i*τ.sz c+off):=hv.elim (λe=>by cases e) (λe=>by simpa only[tr]using e)
     letI:=τ.inh c
     obtain⟨h1,h2⟩:=bYb (τ:=τ) (H:=H) (n:=n) (r:=r0) (i:=i) hb.2 hr hrn (by omega) hb.1.1 hb.1.2;simp only[xop,ea,dS hh hr,trR];refine⟨by rw[bE (bJ c)];exact oP rfl (by omega) hb.1.1,vU hb.1.2,?_⟩;exact hK _ _ h h1.symm h2
   {cases h}
 · rename_i r0 c0 i o c2 j off
   split at h
   · rename_i c xs hr
     split at h
     · rename_i c3 ys hy
       obtain⟨hb,h⟩:=aF h;simp only[x5,qQV]at hb;simp only[Gd,GdN]at hg;obtain⟨hrn,hlf,k,hjk,hin⟩:=hg;obtain⟨rfl,hi,hk⟩:=hin _ _ (.inl hr);have hy':(encS τ.toTS1 c (getE τ.toTS c xs i)).getD o (.v .unk)= .x (.ow c3 ys):=hy;have e1:=(pV hy').1;rw[hlf]at e1;cases e1;rw[vJ hy']at hk;have ea:a.val env= .ptr r0 [i*τ.sz c+o] (j*τ.sz c2+off):=hv.elim (λe=>by cases e) (λe=>by simpa only[tr,trN]using e)
       letI:=τ.inh c
       letI:=τ.inh c2
       have hg0:Hp.get r0 []=some ⟨τ.tid c,fl (τ.av c) xs⟩:=dS hh hr;have hg1:=aFm (o:=i*τ.sz c+o) (bJ c) hg0 rfl hi (pV hy').2 rfl (aFp hy');obtain⟨h1,h2⟩:=bHz (τ:=τ) (H:=H) (n:=n) (c:=c2) (x:=ys.getD j default) hb.2 hb.1.1 hb.1.2;simp only[xop,ea,hg1];refine⟨by rw[bE (bJ c2)];exact oP rfl (by omega) hb.1.1,vU hb.1.2,?_⟩;rw[aHl (xB hb.2)];refine hK _ _ h ?_ h2;rw[h1];cases ag;{have:=vU hb.1.2 rfl;subst this;simp only[bY];rw[vO (bJ c2) (by omega) hb.1.1]};{simp only[bY];rw[aTv (bJ c2) (by omega) hb.1.1]}
     {cases h}
   {cases h}
 · rename_i c xs i off
   obtain⟨hb,h⟩:=aF h;simp only[x5,qQV]at hb;simp only[Gd]at hg;obtain⟨hpl,hg⟩:=hg;have ea:a.val env= .bptr (fl (τ.av c) xs) (i*τ.sz c+off):=hv.elim (λe=>by cases e) (λe=>by simpa only[tr]using e)
   letI:=τ.inh c
   obtain⟨h1,h2⟩:=bHz (τ:=τ) (H:=H) (n:=n) (c:=c) (x:=xs.getD i default) hpl hb.1 hb.2;simp only[xop,ea];refine⟨by rw[bE (bJ c)];exact oP rfl hg hb.1,vU hb.2,?_⟩;refine hK _ _ h ?_ h2;rw[h1];cases ag;{have:=vU hb.2 rfl;subst this;simp only[bY];rw[vO (bJ c) hg hb.1]};{simp only[bY];rw[aTv (bJ c) hg hb.1]}
 {cases h}
theorem bTx {sz:Nat} {v u:TV τ.toTS} {a b:Opd} {K:TV τ.toTS->Option R} (h:bLv τ.toTS1 sz K v u=some r) (hv:v= .v .unk\/a.val env=tr τ.toTS1 v) (hu:u= .v .unk\/b.val env=tr τ.toTS1 u) (hg:Gd H n v)
 {Kp:AV->Heap->Nat->Prop} (hK:∀v a,K v=some r->a=tr τ.toTS1 v->Gd H n v->Kp a Hp n):xop P env Hp n Kp (.iadr sz a b):=by
 unfold bLv at h;split at h;{rename_i r0 c m kd k;obtain⟨hb,h⟩:=aF h;obtain⟨hc,h⟩:=bD h;have hb:=w6 hb;have ea:a.val env= .sref r0 [] 0 m (τ.sz c):=hv.elim (λe=>by cases e) (λe=>by simpa only[tr]using e);have eb:b.val env= .int kd k:=hu.elim (λe=>by cases e) (λe=>by simpa only[tr]using e);simp only[Gd]at hg;simp only[xop,ea,eb];refine⟨⟨hb.symm,hc.1,hc.2⟩,hK _ _ h ?_ ?_⟩;{simp only[tr,p9,qZU,hb]};{simp only[Gd];exact⟨hg.1,m,by omega,hg.2⟩}}
 · rename_i c xs kd k
   obtain⟨hb,h⟩:=aF h;obtain⟨hc,h⟩:=bD h;have hb:=w6 hb;have ea:a.val env= .bor xs.length (fl (τ.av c) xs):=hv.elim (λe=>by cases e) (λe=>by simpa only[tr]using e);have eb:b.val env= .int kd k:=hu.elim (λe=>by cases e) (λe=>by simpa only[tr]using e);simp only[xop,ea,eb]
   letI:=τ.inh c
   refine⟨⟨hc.1,hc.2,?_⟩,hK _ _ h ?_ ?_⟩;{rw[bE (bJ c),hb];exact Nat.mul_lt_mul_of_pos_right (by omega) (τ.pos c)};{simp only[tr,qZU,hb]};{simp only[Gd]at hg ⊢;exact⟨hg,by omega⟩}
 {rename_i r0 c i o c2 m kd k;obtain⟨hb,h⟩:=aF h;obtain⟨hc,h⟩:=bD h;have hb:=w6 hb;have ea:a.val env= .sref r0 [i*τ.sz c+o] 0 m (τ.sz c2):=hv.elim (λe=>by cases e) (λe=>by simpa only[tr,trN]using e);have eb:b.val env= .int kd k:=hu.elim (λe=>by cases e) (λe=>by simpa only[tr]using e);simp only[Gd,GdN]at hg;simp only[xop,ea,eb];refine⟨⟨hb.symm,hc.1,hc.2⟩,hK _ _ h ?_ ?_⟩;{simp only[tr,trN,p9,qZU,hb]};{simp only[Gd,GdN];exact⟨hg.1,hg.2.1,m,by omega,hg.2.2⟩}};{cases h}
theorem wA{z:List AV}(h:z.all pZ=true):trs τ.toTS1 (z.map .v)=z/\Gds H n (z.map (TV.v (τ:=τ.toTS))):=by
 induction z with
 |nil=>exact⟨rfl,by simp only[List.map_nil,Gds]⟩
 |cons a z ih=>simp only[y4,x5]at h;refine⟨by simp only[m5,trs,tr,(ih h.2).1],?_⟩;simp only[m5,Gds];refine⟨?_,(ih h.2).2⟩;have:=h.1;cases a<;>simp only[pZ]at this<;>first|(cases this;done)|simp only[Gd,plainV]
def LOp.consts:LOp->List Opd
 | .mv x| .box _ x| .un _ x| .cvt _ x| .fadr _ x| .fld _ _ _ x| .ext x _| .len x| .nck x| .load _ _ x=>[x]
 | .pick c a b=>[c,a,b]
 | .store _ a x| .bin _ a x| .binb _ a x| .iadr _ a x| .mx _ a x| .sh _ a x| .beq _ _ a x| .app _ _ _ _ a x| .cpy _ a x=>[a,x]
 | .bld _ ps| .bsl _ _ _ _ ps=>ps.map (·.2.2)
 | .mk _ _ _ _ x=>[x]
 | .slc _ x lo hi=>x::(lo.toList++hi.toList)
 |_=>[]
def pW:Opd->Bool
 | .t _=>true
 | .c v=>pZ v
theorem aV{x:Opd}(h:pW x=true):∀v,x= .c v->pZ v=true:=λv e=>by subst e;exact h
theorem nJ{qt:Bool}{tn:List Nat}{H':TH τ.toTS}{n':Nat}{t:Option Root}(hq:qt=false):Chg qt tn H n Hp H' n' ((n,t)::Hp):=⟨λh=>(by rw[hq]at h;cases h),λi hi _=>by rw[cQ,if_neg (by omega)]⟩
theorem aCk{qt:Bool}{tn:List Nat}{H':TH τ.toTS}{n' r:Nat}{cs:List AV}(hq:qt=false)(ht:tn=[r]):Chg qt tn H n Hp H' n' (Hp.put r [] cs):=⟨λh=>(by rw[hq]at h;cases h),λi hi hne=>by
 simp only[Heap.put];split;{rw[cQ,if_neg (λe=>hne (by rw[ht,e];exact u9.2 rfl))]}
 · rfl⟩
theorem aIh{c:Nat}{v:TV τ.toTS}{xs:List (τ.T c)}(h:pO H c v=some xs)(hg:Gd H n v)(hh:HtOk τ.toTS1 H n Hp):cY Hp (τ.sz c) (tr τ.toTS1 v)=some (xs.length,fl (τ.av c) xs)/\v≠ .v .unk:=by
 unfold pO at h;split at h
 · split at h
   · rename_i c' ys e;subst e;cases h
     letI:=τ.inh c'
     exact⟨by simp only[tr];exact aUk (bJ _),λe=>by cases e⟩
   {cases h}
 · rename_i r0 c0 k
   split at h
   · rename_i c' ys hr
     obtain⟨hp,h1⟩:=aF h;split at h1
     · rename_i e;subst e;cases h1
       simp only[Gd]at hg;obtain⟨e1,e2⟩:=hg.2.row hr;subst e1
       letI:=τ.inh c'
       exact⟨by simp only[tr];exact aZw e2.symm (bJ c') (xB hp) (dS hh hr),λe=>by cases e⟩
     {cases h1}
   {cases h}
 · rename_i r0 c0 i k
   split at h
   · rename_i c' ys hr
     obtain⟨hp,h1⟩:=aF h;split at h1
     · rename_i e;subst e;cases h1
       simp only[Gd]at hg;obtain⟨_,m,hm,hrl⟩:=hg;obtain⟨e1,e2⟩:=hrl.row hr;subst e1
       letI:=τ.inh c'
       exact⟨by simp only[tr];exact bPi (bJ c') (xB hp) (dS hh hr) rfl (by omega),λe=>by cases e⟩
     {cases h1}
   {cases h}
 · rename_i r0 c0 i o c2 k
   split at h
   · rename_i c' xs' hr
     split at h
     · rename_i c3 ys hy
       obtain⟨hp,h1⟩:=aF h;split at h1
       · rename_i e;subst e;cases h1
         simp only[Gd,GdN]at hg;obtain⟨hrn,hlf,hin⟩:=hg;obtain⟨rfl,hi,hk⟩:=hin _ _ (.inl hr);have e1:=(pV hy).1;rw[hlf]at e1;cases e1;rw[vJ hy]at hk
         letI:=τ.inh c'
         letI:=τ.inh c2
         have hg0:Hp.get r0 []=some ⟨τ.tid c',fl (τ.av c') xs'⟩:=dS hh hr;have hg1:=aFm (o:=i*τ.sz c'+o) (bJ c') hg0 rfl hi (pV hy).2 rfl (aFp hy);exact⟨by simp only[tr,trN];exact aZw hk.symm (bJ c2) (xB hp) hg1,λe=>by cases e⟩
       {cases h1}
     {cases h}
   {cases h}
 {cases h;exact⟨by simp only[tr,cY];rfl,λe=>by cases e⟩};{cases h;exact⟨by simp only[tr,cY];rfl,λe=>by cases e⟩};{cases h}
theorem aSb{c r c0 k:Nat}{xs:List (τ.T c)}(h:pO H c (.ws r c0 k)=some xs):lkH H r=some (.row c xs)/\τ.pl c=true:=by simp only[pO]at h;split at h;{rename_i c' ys hr;obtain⟨hp,h1⟩:=aF h;split at h1;{rename_i e;subst e;cases h1;exact⟨hr,hp⟩};{cases h1}};{cases h}
theorem aBy{e sz:Nat}(h:aMg τ.toTS1 e sz=true):τ.tid e=e/\sz=τ.sz e:=by simp only[aMg,x5]at h;exact⟨w6 h.1,w6 h.2⟩
theorem bMa{c:Nat}{t:Tup τ.toTS (τ.lf c)}{vs:List (TV τ.toTS)}(h:unL (τ.lf c) vs=some t):τ.av c (τ.mkS c t)=trs τ.toTS1 vs:=by rw[τ.avE];unfold encS;rw[τ.mkP,wJ _ _ _ h]
theorem aCx{c:Nat}:∀{k:Nat} {vs:List (TV τ.toTS)} {xs:List (τ.T c)},aBv τ.toTS1 c k vs=some xs->xs.length=k/\trs τ.toTS1 vs=fl (τ.av c) xs
 |0,[],xs,h=>by simp only[aBv]at h;cases h;exact⟨rfl,rfl⟩
 |0,_::_,xs,h=>by simp only[aBv]at h;cases h
 |k+1,vs,xs,h=>by simp only[aBv]at h;split at h;{rename_i t ht;split at h;{rename_i ys hy;cases h;obtain⟨h1,h2⟩:=aCx hy;refine⟨by rw[y7,h1],?_⟩;have e:fl (τ.av c) (τ.mkS c t::ys)=τ.av c (τ.mkS c t)++fl (τ.av c) ys:=(by simp[fl]);rw[e,<-h2,bMa ht,<-xQ,List.take_append_drop]};{cases h}};{cases h}
theorem aVp{z:List (TV τ.toTS)}:∀m,trs τ.toTS1 (aIg z m)=aR (trs τ.toTS1 z) m
 |0=>rfl
 |m+1=>by simp only[aIg,aR,xQ,aVp m]
theorem Gds.app:∀{vs us:List (TV τ.toTS)},Gds H n vs->Gds H n us->Gds H n (vs++us):=λh k=>Gds.all.2 λx hx=>(List.mem_append.1 hx).elim (Gds.all.1 h x) (Gds.all.1 k x)
theorem Gds.rep{z:List (TV τ.toTS)}(h:Gds H n z):∀m,Gds H n (aIg z m)
 |0=>by simp only[aIg,Gds]
 |m+1=>Gds.app h (Gds.rep h m)
theorem aIf(he:EOk τ.toTS1 L E H n env):∀{ps:List (Nat×Nat×Opd)} {cs cs':List (TV τ.toTS)},aHq E cs ps=some cs'->(ps.map (·.2.2)).all pW=true->Gds H n cs->eC env (trs τ.toTS1 cs) ps=some (trs τ.toTS1 cs')/\Gds H n cs'
 |[],cs,cs',h,_,hg=>by simp only[aHq]at h;cases h;exact⟨rfl,hg⟩
 |(off,sz,x)::ps,cs,cs',h,hc,hg=>by simp only[m5,y4,x5]at hc;obtain⟨x1,x2⟩:=cA he x (aV hc.1);simp only[aHq]at h;split at h;{rename_i vs hv;obtain⟨hb,h⟩:=aF h;simp only[x5,qQV,qJZ]at hb;obtain⟨c1,c2,c3⟩:=zD hv x2;simp only[eC,x1.resolve_left c3,c1,cC];rw[if_pos ⟨hb.1,hb.2⟩,<-xU];exact aIf he h hc.2 (Gds.setTV hg c2)};{cases h}
theorem aLf(he:EOk τ.toTS1 L E H n env){x:Option Opd}{d l:Int}(h:dBd E x d=some l)(hc:x.toList.all pW=true):dY env x d=some l:=by
 (cases x with|none=>simpa only[dBd,dY]using h|some x=>simp only[Option.toList_some,y4,o4,e9]at hc;obtain⟨x1,x2⟩:=cA he x (aV hc);simp only[dBd]at h;split at h;{rename_i k z hz;cases h;rw[hz]at x1;have ex:x.val env= .int k l:=x1.elim (λe=>by cases e) (λe=>by simpa only[tr]using e);simp only[dY,ex]};{cases h})
theorem bCs{xs ys:List (TV τ.toTS)}:∀{os:List (Nat×Bool)} {r:Bool},dEq xs ys os=some r->tX (trs τ.toTS1 xs) (trs τ.toTS1 ys) os=some r
 |[],r,h=>by simp only[dEq]at h;cases h;rfl
 |(o,t)::os,r,h=>by
  have gx:∀{zs:List (TV τ.toTS)} {x:AV},zs.getD o (.v .unk)= .v x->x≠ .unk->(trs τ.toTS1 zs).getD o .unk=x:=λ{zs x} e hne=>by by_cases hl:o<zs.length;{rw[pE hl,e];simp only[tr]};{rw[x6,qQH (by omega)]at e;cases e;exact absurd rfl hne}
  simp only[dEq]at h;(cases t with|false=>simp only at h;split at h;{rename_i k a k' b h1 h2;split at h;{rename_i q hq;obtain⟨hb,h⟩:=aF h;cases h;simp only[tX,gx h1 (by simp),gx h2 (by simp),bCs hq];rw[if_pos (of_decide_eq_true hb)]};{cases h}};{cases h}|true=>simp only at h;split at h;{rename_i a b h1 h2;split at h;{rename_i q hq;cases h;simp only[tX,gx h1 (by simp),gx h2 (by simp),bCs hq]};{cases h}};{cases h})
theorem kill_fx{r:Nat}:FxH H (H.put r none):=FxH.put λ_ _ _ _ e=>by cases e
theorem aLi{r c:Nat}{xs:List (τ.T c)}{n':Nat}(h:r<n'):Gd (H.put r (some (.row c xs))) n' (.ws r c xs.length):=by simp only[Gd];exact⟨h,RowLen.put⟩
theorem zT{e:Nat}{xs:List (τ.T e)}(ht:τ.tid e=e)(hh:HtOk τ.toTS1 H n Hp):HtOk τ.toTS1 (H.put n (some (.row e xs))) (n+1) ((n,some ⟨e,fl (τ.av e) xs⟩)::Hp)/\Ext H n (H.put n (some (.row e xs))):=by have:=hh.fresh (t:= .row e xs) mV;simpa only[trR,ht]using this
theorem bCg{e sz bytes m:Nat}{us:List (TV τ.toTS)}{v:TV τ.toTS}{s x:Opd}{z:List AV}(h:aZh τ.toTS1 H n K e sz bytes m us v=some r)(hv:v= .v .unk\/s.val env=tr τ.toTS1 v)(hg:Gd H n v)(hu:Gds H n us)(hl:us.length=m*sz)(hsz:sz=τ.sz e)(hx:cY Hp sz (x.val env)=some (m,trs τ.toTS1 us))(hh:HtOk τ.toTS1 H n Hp)(hK:KtOk τ.toTS1 H n Hp false (bC v) K Kp r):xop P env Hp n Kp (.app e sz bytes z s x):=by
 have nil0:∀{w:AV},(w= .nil\/w= .emp)->s.val env=w->gb (qZH (m*bytes) (2^47)&&qZH m (2^47)) (K (.x (.wc n e m)) (H.put n (some (.cells e us (us.map λ_=>H.q)))) (n+1))=some r->xop P env Hp n Kp (.app e sz bytes z s x):=λ{w} hw es h=>by obtain⟨hb,h⟩:=aF h;simp only[x5,qQV]at hb;obtain⟨g1,g2⟩:=hh.fresh (t:= .cells e us (us.map λ_=>H.q)) ⟨hu,t8 _⟩;exact(dJ (bRr (K:=Kp) hx (by rw[es];exact hw) hb ⟨hK _ _ _ _ _ h (.inr (by simp only[tr,trN,hsz])) (by omega) g2 FxH.putNew g1 (by simp only[Gd,GdN];omega) (nJ rfl)⟩).un)
 unfold aZh at h;split at h;{exact nil0 (.inl rfl) (hv.elim (λe=>by cases e) (λe=>by simpa only[tr]using e)) h};{exact nil0 (.inr rfl) (hv.elim (λe=>by cases e) (λe=>by simpa only[tr]using e)) h}
 · rename_i r0 c k
   split at h
   · rename_i c' xs hr
     obtain⟨hb,h0⟩:=aF h;simp only[x5,qJZ]at hb;obtain⟨⟨b1,b2⟩,b3⟩:=hb;obtain⟨hq,h1⟩:=bD h0;simp only[Gd]at hg;obtain⟨e1,e2⟩:=hg.2.row hr;subst e1;have ea:s.val env= .sref r0 [] 0 k sz:=hv.elim (λe=>by cases e) (λe=>by rw[e];simp only[tr,b3]);obtain⟨k1,k2⟩:=hh.kill hg.1;obtain⟨g1,g2⟩:=k1.fresh (t:= .pap c' xs us m) ⟨Gds.ext (k9 n) k2 hu,by simp only[aDn];rw[b3];exact hl⟩
     letI:=τ.inh c'
     have hg1:Hp.get1 r0=some ⟨e,fl (τ.av c') xs⟩:=(by rw[hh.heap,hr];simp only[Option.map_some,trR,b2]);have et:trR τ.toTS1 (.pap c' xs us m)=⟨e,fl (τ.av c') xs++trs τ.toTS1 us⟩:=(by simp only[trR,b2]);rw[et]at g1;refine(dJ (bXd (K:=Kp) (c:=τ.av c') e2.symm (λx=>by rw[bJ c',b3]) hx ea hg1 hq ⟨hK _ _ _ _ _ h1 (.inr (by simp only[tr,b3])) (by omega) (k2.trans (k9 n) g2) (kill_fx.trans (FxH.putO λ_ _ _ e=>by cases e)) g1 ?_ ⟨λh=>(by cases h),λi hi hne=>by rw[cQ,if_neg (by omega),cQ,if_neg (λe=>hne (by simp only[bC,e,u9]))]⟩⟩).un);simp only[Gd];exact⟨by omega,λp hp=>by rw[aM,if_pos rfl]at hp;simpa[qN]using hp.symm⟩
   {cases h}
 {cases h}
theorem bOc:∀(l:List Lf) (t:Tup τ.toTS l),l.all (plL τ.toTS)=true->(cB τ.toTS l t).map olT=j0 l.length 0
 |[],_,_=>rfl
 |[a],x,h=>by simp only[y4,o4,e9]at h;cases a<;>first|rfl|(cases h;done)
 |a::b::l,p,h=>by rw[y4,x5]at h;simp only[cB,m5,y7,List.replicate_succ];rw[bOc (b::l) p.2 h.2];have h1:=h.1;cases a<;>first|rfl|(cases h1;done)
theorem bEv{c:Nat}{xs ys:List (τ.T c)}(hp:τ.pl c=true)(h:xs.length=ys.length):xs.map (shp τ.toTS1 c)=ys.map (shp τ.toTS1 c):=by have e:shp τ.toTS1 c=λ_=>j0 (τ.lf c).length 0:=funext λx=>bOc _ _ (τ.plf c hp);rw[e,List.map_const',List.map_const',h]
theorem pT{A:Type}{l:List A}{o:Nat}{d:A}:l.set o (l.getD o d)=l:=by by_cases h:o<l.length;{rw[x6,y9 h];exact List.set_getElem_self h};{exact qXY (by omega)}
theorem bGv{c:Nat}{xs:List (τ.T c)}{i:Nat}{y:τ.T c}(h:shp τ.toTS1 c y=shp τ.toTS1 c (getE τ.toTS c xs i)):(xs.set i y).map (shp τ.toTS1 c)=xs.map (shp τ.toTS1 c):=by
 rw[List.map_set,h];by_cases hi:i<xs.length
 · have:shp τ.toTS1 c (getE τ.toTS c xs i)=(xs.map (shp τ.toTS1 c)).getD i []:=by
    simp only[getE,x6,qXX,y9 hi,qXK,Option.map_some]
   rw[this];exact pT
 {exact qXY (by simpa using hi)}
theorem bWx{c:Nat}{x:τ.T c}{off:Nat}{us:List (TV τ.toTS)}{t:Tup τ.toTS (τ.lf c)}(h:unL (τ.lf c) (setTV (encS τ.toTS1 c x) off us)=some t)(hu:Gds H n us):shp τ.toTS1 c (τ.mkS c t)=shp τ.toTS1 c x:=by unfold shp;have e1:encS τ.toTS1 c (τ.mkS c t)=setTV (encS τ.toTS1 c x) off us:=(by unfold encS;rw[τ.mkP];exact wJ _ _ _ h);have el:(encS τ.toTS1 c (τ.mkS c t)).length=(encS τ.toTS1 c x).length:=(by rw[e1,setTV_len]);apply List.ext_getElem?;intro j;simp only[qXX];by_cases hj:j<(τ.lf c).length;{obtain⟨a,z,h1,h2⟩:=aFr _ (τ.prj c (τ.mkS c t)) j hj;obtain⟨a',z',h3,h4⟩:=aFr _ (τ.prj c x) j hj;rw[h1]at h3;cases h3;have l1:j<(encS τ.toTS1 c (τ.mkS c t)).length:=(by rw[fT];exact hj);have l2:j<(encS τ.toTS1 c x).length:=(by rw[fT];exact hj);have g1:(encS τ.toTS1 c (τ.mkS c t))[j]? =some (cO τ.toTS a z):=(by have h2:(encS τ.toTS1 c (τ.mkS c t)).getD j (.v .unk)=cO τ.toTS a z:=h2;rw[x6,y9 l1]at h2;rw[y9 l1,<-h2];rfl);have g2:(encS τ.toTS1 c x)[j]? =some (cO τ.toTS a z'):=(by have h4:(encS τ.toTS1 c x).getD j (.v .unk)=cO τ.toTS a z':=h4;rw[x6,y9 l2]at h4;rw[y9 l2,<-h4];rfl);rw[g1,g2];simp only[Option.map_some,w7.injEq];(cases a with|i k=>rfl|b=>rfl|row d=>rfl|own d=>rcases bCw (τ:=τ.toTS1) (j:=j) (us:=us) (vs:=encS τ.toTS1 c x) (o:=off)with hs|⟨u,hu1,hu2⟩;{rw[<-e1,x6,x6,g1,g2]at hs;simp only[qXK]at hs;rw[hs]};{rw[<-e1,x6,g1]at hu2;simp only[qXK,cO]at hu2;have:=Gds.all.1 hu u hu1;rw[<-hu2]at this;simp only[Gd,GdN]at this})};{rw[qQH (by rw[fT];omega),qQH (by rw[fT];omega)]}
theorem bHs{base:List AV}{sz o m:Nat}:∀{hs:List (Nat×Nat)} {cs:List AV},Hol base o m cs->(∀h∈hs,o<=h.1*sz+h.2/\h.1*sz+h.2<o+m)->Hol base o m (hs.foldl (λcs h=>cs.set (h.1*sz+h.2) .unk) cs)
 |[],cs,h,_=>h
 |q::hs,cs,h,hq=>by obtain⟨a,b⟩:=hq q (by simp);exact bHs (hs:=hs) (cFp h a b) λp hp=>hq p (m8 _ hp)
theorem bPv{op:LOp}(h:dop τ.toTS1 E H n K op=some r)(hc:op.consts.all pW=true)(he:EOk τ.toTS1 L E H n env)(hh:HtOk τ.toTS1 H n Hp)(hK:KtOk τ.toTS1 H n Hp op.quiet (trn E op) K Kp r):xop P env Hp n Kp op:=by
 have keep:∀v a,K v H n=some r->a=tr τ.toTS1 v->Gd H n v->Kp a Hp n:=λv a hk ha hg=>hK v a H n Hp hk (.inr ha) (k9 n) Ext.refl FxH.refl hh hg Chg.same;cases op<;>simp only[dop]at h
 case mv x=>simp only[LOp.consts,y4,o4,e9]at hc;obtain⟨h1,h2⟩:=cA he x (aV hc);simp only[xop];exact hK _ _ H n Hp h h1 (k9 n) Ext.refl FxH.refl hh h2 Chg.same
 case box e x=>simp only[LOp.consts,y4,o4,e9]at hc;obtain⟨h1,h2⟩:=cA he x (aV hc);split at h;{rename_i vs hv;obtain⟨c1,c2,c3⟩:=zD hv h2;obtain⟨f1,f2⟩:=hh.fresh (t:= .cells e vs (vs.map λ_=>H.q)) ⟨c2,t8 _⟩;have ex:=h1.resolve_left c3;simp only[xop,ex,c1];exact hK _ _ _ _ _ h (.inr (by simp only[tr])) (by omega) f2 FxH.putNew f1 (by simp only[Gd,plainV];exact⟨by omega,trivial⟩) (nJ rfl)};{cases h}
 case fresh e z=>obtain⟨hz,h⟩:=aF h;obtain⟨p1,p2⟩:=wA (τ:=τ) (H:=H) (n:=n) hz;obtain⟨f1,f2⟩:=hh.fresh (t:= .cells e (z.map .v) ((z.map (TV.v (τ:=τ.toTS))).map λ_=>H.q)) ⟨p2,t8 _⟩;simp only[xop];refine hK _ _ _ _ _ h (.inr (by simp only[tr])) (by omega) f2 FxH.putNew ?_ (by simp only[Gd,plainV];exact⟨by omega,trivial⟩) (nJ rfl);simpa only[trR,p1]using f1
 case pick c a b=>simp only[LOp.consts,y4,o4,e9,x5]at hc;obtain⟨h1,h2⟩:=cA he c (aV hc.1);obtain⟨a1,a2⟩:=cA he a (aV hc.2.1);obtain⟨b1,b2⟩:=cA he b (aV hc.2.2);split at h;{rename_i t ht;have ec:c.val env= .bool t:=(by rw[ht]at h1;exact h1.elim (λe=>by cases e) (λe=>by simpa only[tr]using e));simp only[xop,ec];cases t;{simp only[cond_false]at h;simp only[o8,if_false];exact hK _ _ H n Hp h b1 (k9 n) Ext.refl FxH.refl hh b2 Chg.same};{simp only[cond_true]at h;simp only[if_true];exact hK _ _ H n Hp h a1 (k9 n) Ext.refl FxH.refl hh a2 Chg.same}};{cases h}
 case load ag m a=>simp only[LOp.consts,y4,o4,e9]at hc;obtain⟨h1,h2⟩:=cA he a (aV hc);exact bTt h h1 h2 hh keep
 case store m a x=>
  simp only[LOp.consts,y4,o4,e9,x5]at hc;obtain⟨a1,a2⟩:=cA he a (aV hc.1);obtain⟨x1,x2⟩:=cA he x (aV hc.2);split at h
  · rename_i r0 o us ha hx
    obtain⟨c1,c2,c3⟩:=zD hx x2;have ex:=x1.resolve_left c3;rw[ha]at a1;have ea:a.val env= .ptr r0 [] o:=a1.elim (λe=>by cases e) (λe=>by simpa only[tr]using e);split at h
    · rename_i e vs ts hr
      obtain⟨hb,h⟩:=aF h;simp only[x5,qQV,qJZ]at hb;have hcl:=hh.cells _ _ _ _ hr;obtain⟨f1,f2⟩:=hh.cellsTurn (us2:=sS H.q ts o us) hr (Gds.setTV (o:=o) hcl.1 c2) (by rw[aEs,setTV_len];exact hcl.2);simp only[xop,ea,ex,c1,dS hh hr,trR,cC];refine⟨hb.1,hb.2,?_⟩
      refine hK _ _ _ _ _ h (.inr (by simp only[tr])) (k9 n) f2 (FxH.put λe' vs' ts' j q h0 h1=>by
       cases q;rcases aHm (q:=H.q) (j:=j) (us:=us) (o:=o) hcl.2 with k|⟨k1,k2⟩;{omega}
       · exact⟨vs,ts,hr,setTV_len.symm,k2.symm,k1.symm⟩) ?_ (by simp only[Gd,plainV]) (aCk rfl (by simp only[trn,ha,bC]))
      have hg1:Hp.get1 r0=some ⟨e,trs τ.toTS1 vs⟩:=(by rw[hh.heap,hr];rfl);simp only[Heap.put,hg1];rw[<-xU];exact f1
    {cases h}
  · rename_i r0 c0 i off us ha hx
    obtain⟨c1,c2,c3⟩:=zD hx x2;have ex:=x1.resolve_left c3;rw[ha]at a1 a2;have ea:a.val env= .ptr r0 [] (i*τ.sz c0+off):=a1.elim (λe=>by cases e) (λe=>by simpa only[tr]using e);simp only[Gd]at a2;obtain⟨hrn,k,hik,hrl⟩:=a2;have ht:trn E (.store m a x)=[r0]:=(by simp only[trn,ha,bC]);unfold cCm at h;split at h
    · rename_i c xs hr
      obtain⟨hb,h⟩:=aF h;simp only[x5,qQV,qJZ]at hb;obtain⟨rfl,hl⟩:=hrl.row hr
      letI:=τ.inh c
      have hi:i<xs.length:=(by omega);have hg1:Hp.get1 r0=some ⟨τ.tid c,fl (τ.av c) xs⟩:=(by rw[hh.heap,hr];rfl);split at h;{rename_i t ht0;have hy:aT (τ.av c (xs.getD i default)) off (trs τ.toTS1 us)=τ.av c (τ.mkS c t):=(by rw[τ.avE c (τ.mkS c t)];unfold encS;rw[τ.mkP,wJ _ _ _ ht0,xU,τ.avE]);obtain⟨f1,f2⟩:=hh.rowTurn (ys:=xs.set i (τ.mkS c t)) hr (bGv (bWx (H:=H) (n:=n) ht0 c2)).symm;simp only[xop,ea,ex,c1,dS hh hr,trR];refine⟨by rw[cC];exact hb.1,by rw[bE (bJ c)];exact oP rfl hi hb.2,?_⟩;refine hK _ _ _ _ _ h (.inr (by simp only[tr])) (k9 n) f2 FxH.putRow ?_ (by simp only[Gd,plainV]) (aCk rfl ht);simp only[Heap.put,hg1];rw[aJy (bJ c) hi (by rw[cC,hb.1];exact hb.2) hy];exact f1};{obtain⟨_,h⟩:=aF h;obtain⟨f1,f2⟩:=hh.turn (t:= .pst c xs i off us) hrn (Ex1.raw (by rw[hr];rfl) λ_ _ e=>by rcases e with e|⟨_,e⟩<;>cases e) ⟨c2,hi,by rw[hb.1];exact hb.2⟩;simp only[xop,ea,ex,c1,dS hh hr,trR];refine⟨by rw[cC];exact hb.1,by rw[bE (bJ c)];exact oP rfl hi hb.2,?_⟩;refine hK _ _ _ _ _ h (.inr (by simp only[tr])) (k9 n) f2 (FxH.putO λ_ _ _ e=>by cases e) ?_ (by simp only[Gd,plainV]) (aCk rfl ht);simp only[Heap.put,hg1];exact f1}
    · rename_i c xs hs hr
      obtain⟨hb,h⟩:=aF h;simp only[x5,qQV,qJZ,w5,Nat.blt_eq,u0,List.isEmpty_eq_false_iff]at hb;obtain⟨⟨⟨hb1,hb2⟩,hb3⟩,hb4⟩:=hb;obtain⟨hi0,h⟩:=aYn h;have hd:=hrl (c,xs.length) (by rw[hr];rfl);simp only[Prod.mk.injEq]at hd;obtain⟨rfl,hl⟩:=hd
      letI:=τ.inh c
      have hi:i<xs.length:=(by omega);have hg1:Hp.get1 r0=some (trR τ.toTS1 (.hol c xs hs)):=(by rw[hh.heap,hr];rfl);obtain⟨f1,f2⟩:=hh.turn (t:= .pst c xs i off us) hrn (Ex1.raw (by rw[hr];rfl) λ_ _ e=>by rcases e with e|⟨_,e⟩<;>cases e) ⟨c2,hi,by rw[hb1];exact hb2⟩;have hol:Hol (fl (τ.av c) xs) (i*τ.sz c+off) m (trR τ.toTS1 (.hol c xs hs)).cs:=bHs cFc (λq hq=>by have h1:=hi0 q hq;have h2:=hb4 q hq;rw[h1];omega);refine dJ (bOr (K:=Kp) (c:=τ.av c) (xs:=xs) (bJ c) ea (by rw[ex];exact c1) (by rw[cC];exact hb1) hg1 hol rfl hi hb2 ⟨?_⟩).un;exact hK _ _ _ _ _ h (.inr (by simp only[tr])) (k9 n) f2 (FxH.putO λ_ _ _ e=>by cases e) f1 (by simp only[Gd,plainV]) ⟨λq=>(by cases q),λq hq hne=>by rw[cQ,if_neg (λe=>hne (by rw[ht,e];exact u9.2 rfl))]⟩
    {cases h}
  · rename_i r0 c0 i o c2' j off us ha hx
    obtain⟨c1,c2,c3⟩:=zD hx x2;have ex:=x1.resolve_left c3;rw[ha]at a1 a2;have ea:a.val env= .ptr r0 [i*τ.sz c0+o] (j*τ.sz c2'+off):=a1.elim (λe=>by cases e) (λe=>by simpa only[tr,trN]using e);simp only[Gd,GdN]at a2;obtain⟨hrn,hlf,k,hjk,hin⟩:=a2;split at h
    · rename_i c xs hr
      split at h
      · rename_i c3' ys hy
        obtain⟨hb,h⟩:=aF h;simp only[x5,qQV,qJZ]at hb;obtain⟨rfl,hi,hk⟩:=hin _ _ (.inl hr);have hy':(encS τ.toTS1 c (getE τ.toTS c xs i)).getD o (.v .unk)= .x (.ow c3' ys):=hy;have e1:=(pV hy').1;rw[hlf]at e1;cases e1;rw[vJ hy']at hk;split at h
        · rename_i t ht0
          split at h
          · rename_i t2 ht2
            letI:=τ.inh c
            letI:=τ.inh c2'
            have hj:j<ys.length:=(by omega);have ho:=(pV hy').2;have hg0:Hp.get r0 []=some ⟨τ.tid c,fl (τ.av c) xs⟩:=dS hh hr;have hg1:=aFm (o:=i*τ.sz c+o) (bJ c) hg0 rfl hi ho rfl (aFp hy');have hs1:aT (τ.av c2' (ys.getD j default)) off (trs τ.toTS1 us)=τ.av c2' (τ.mkS c2' t):=(by rw[τ.avE c2' (τ.mkS c2' t)];unfold encS;rw[τ.mkP,wJ _ _ _ ht0,xU,τ.avE]);have e2:cB τ.toTS (τ.lf c) t2=(encS τ.toTS1 c (getE τ.toTS c xs i)).set o (.x (.ow c2' (ys.set j (τ.mkS c2' t)))):=wJ _ _ _ ht2;have hs2:aT (τ.av c (xs.getD i default)) o [.own (τ.tid c2') (τ.sz c2') ys.length (fl (τ.av c2') (ys.set j (τ.mkS c2' t)))]=τ.av c (τ.mkS c t2):=(by rw[τ.avE c (τ.mkS c t2)];unfold encS;rw[τ.mkP,e2,aWu];simp only[aT,tr,trN,t7];rw[τ.avE]);have esh:shp τ.toTS1 c (τ.mkS c t2)=shp τ.toTS1 c (getE τ.toTS c xs i):=(by unfold shp encS;rw[τ.mkP,e2,List.map_set];have:olT (.x (.ow c2' (ys.set j (τ.mkS c2' t))):TV τ.toTS)=((encS τ.toTS1 c (getE τ.toTS c xs i)).map olT).getD o 0:=(by have h7:=vJ hy';unfold shp at h7;rw[h7];simp only[olT,t7]);rw[this];exact pT);obtain⟨f1,f2⟩:=hh.rowTurn (ys:=xs.set i (τ.mkS c t2)) hr (bGv esh).symm;have hp0:Hp.put r0 [] (fl (τ.av c) (xs.set i (τ.mkS c t2)))=(r0,some ⟨τ.tid c,fl (τ.av c) (xs.set i (τ.mkS c t2))⟩)::Hp:=(by have:Hp.get1 r0=some ⟨τ.tid c,fl (τ.av c) xs⟩:=hg0;simp only[Heap.put,this]);have hp1:=bPe (o:=i*τ.sz c+o) (m2:=ys.length) (ds:=fl (τ.av c2') (ys.set j (τ.mkS c2' t))) (bJ c) hg0 rfl hi ho rfl (aFp hy') rfl hs2 rfl hp0;simp only[xop,ea,ex,c1,hg1];refine⟨by rw[cC];exact hb.1.1,by rw[bE (bJ c2')];exact oP rfl hj hb.1.2,?_⟩;rw[aJy (bJ c2') hj (by rw[cC,hb.1.1];exact hb.1.2) hs1,hp1];exact hK _ _ _ _ _ h (.inr (by simp only[tr])) (k9 n) f2 FxH.putRow f1 (by simp only[Gd,plainV]) ⟨λq=>(by cases q),λq hq hne=>by rw[cQ,if_neg (λe=>hne (by simp only[trn,ha,bC];rw[e];exact u9.2 rfl))]⟩
          {cases h}
        {cases h}
      {cases h}
    {cases h}
  {cases h}
 case bin op x y=>simp only[LOp.consts,y4,o4,e9,x5]at hc;obtain⟨a1,a2⟩:=cA he x (aV hc.1);obtain⟨x1,x2⟩:=cA he y (aV hc.2);split at h;{rename_i k a k' b ha hx;obtain⟨hb,h⟩:=aF h;rw[ha]at a1;rw[hx]at x1;have ea:x.val env= .int k a:=a1.elim (λe=>by cases e) (λe=>by simpa only[tr]using e);have ex:y.val env= .int k' b:=x1.elim (λe=>by cases e) (λe=>by simpa only[tr]using e);simp only[xop,ea,ex];exact⟨by simpa using hb,bYq h λz hz hp=>keep _ _ hz (by simp only[tr]) (by simp only[Gd];exact hp.more (Nat.zero_le n))⟩};{cases h}
 case binb ng x y=>simp only[LOp.consts,y4,o4,e9,x5]at hc;obtain⟨a1,a2⟩:=cA he x (aV hc.1);obtain⟨x1,x2⟩:=cA he y (aV hc.2);split at h;{rename_i a b ha hx;rw[ha]at a1;rw[hx]at x1;have ea:x.val env= .bool a:=a1.elim (λe=>by cases e) (λe=>by simpa only[tr]using e);have ex:y.val env= .bool b:=x1.elim (λe=>by cases e) (λe=>by simpa only[tr]using e);simp only[xop,ea,ex];exact keep _ _ h (by cases ng<;>simp only[tr]) (by simp only[Gd,plainV])};{cases h}
 case un op x=>simp only[LOp.consts,y4,o4,e9]at hc;obtain⟨a1,a2⟩:=cA he x (aV hc);split at h;{rename_i b ha;rw[ha]at a1;have ea:x.val env= .bool b:=a1.elim (λe=>by cases e) (λe=>by simpa only[tr]using e);simp only[xop,ea,xun];exact keep _ _ h (by simp only[tr]) (by simp only[Gd,plainV])};{rename_i k b ha;rw[ha]at a1;have ea:x.val env= .int k b:=a1.elim (λe=>by cases e) (λe=>by simpa only[tr]using e);simp only[xop,ea,xun];exact keep _ _ h (by simp only[tr]) (by simp only[Gd,plainV])};{cases h}
 case cvt k x=>simp only[LOp.consts,y4,o4,e9]at hc;obtain⟨a1,a2⟩:=cA he x (aV hc);split at h;{rename_i k' b ha;rw[ha]at a1;have ea:x.val env= .int k' b:=a1.elim (λe=>by cases e) (λe=>by simpa only[tr]using e);simp only[xop,ea];exact keep _ _ h (by simp only[tr]) (by simp only[Gd,plainV])};{cases h}
 case fadr off x=>simp only[LOp.consts,y4,o4,e9]at hc;obtain⟨a1,a2⟩:=cA he x (aV hc);split at h;{rename_i r0 o ha;rw[ha]at a1 a2;have ea:x.val env= .ptr r0 [] o:=a1.elim (λe=>by cases e) (λe=>by simpa only[tr]using e);simp only[xop,ea];exact keep _ _ h (by simp only[tr]) (by simpa only[Gd,plainV]using a2)};{rename_i r0 c i o ha;rw[ha]at a1 a2;have ea:x.val env= .ptr r0 [] (i*τ.sz c+o):=a1.elim (λe=>by cases e) (λe=>by simpa only[tr]using e);simp only[xop,ea];exact keep _ _ h (by simp only[tr,m4]) (by simpa only[Gd]using a2)};{rename_i c xs i o ha;rw[ha]at a1 a2;have ea:x.val env= .bptr (fl (τ.av c) xs) (i*τ.sz c+o):=a1.elim (λe=>by cases e) (λe=>by simpa only[tr]using e);simp only[xop,ea];exact keep _ _ h (by simp only[tr,m4]) (by simpa only[Gd]using a2)};{rename_i r0 c i o c2 j f ha;rw[ha]at a1 a2;have ea:x.val env= .ptr r0 [i*τ.sz c+o] (j*τ.sz c2+f):=a1.elim (λe=>by cases e) (λe=>by simpa only[tr,trN]using e);simp only[xop,ea];exact keep _ _ h (by simp only[tr,trN,m4]) (by simpa only[Gd,GdN]using a2)};{cases h}
 case fld ag off m x=>simp only[LOp.consts,y4,o4,e9]at hc;obtain⟨a1,a2⟩:=cA he x (aV hc);split at h;{rename_i vs ha;obtain⟨hb,h⟩:=aF h;simp only[x5,qQV]at hb;rw[ha]at a1 a2;simp only[Gd]at a2;have ea:x.val env= .agg (trs τ.toTS1 vs):=a1.elim (λe=>by cases e) (λe=>by simpa only[tr]using e);obtain⟨h1,h2⟩:=aLt hb.1 hb.2 a2;simp only[xop,ea,cC];exact⟨hb.1,vU hb.2,keep _ _ h h1.symm h2⟩};{cases h}
 case iadr sz x i=>simp only[LOp.consts,y4,o4,e9,x5]at hc;obtain⟨a1,a2⟩:=cA he x (aV hc.1);obtain⟨x1,x2⟩:=cA he i (aV hc.2);exact bTx h a1 x1 a2 keep
 case ext x i=>simp only[LOp.consts,y4,o4,e9]at hc;obtain⟨a1,a2⟩:=cA he x (aV hc);split at h;{rename_i vs ha;obtain⟨hb,h⟩:=aF h;simp only[qQV]at hb;rw[ha]at a1 a2;simp only[Gd]at a2;have ea:x.val env= .tup (trs τ.toTS1 vs):=a1.elim (λe=>by cases e) (λe=>by simpa only[tr]using e);simp only[xop,ea,cC];exact⟨hb,keep _ _ h (pE (by omega)) a2.getD⟩};{cases h}
 case len x=>
  simp only[LOp.consts,y4,o4,e9]at hc;obtain⟨a1,a2⟩:=cA he x (aV hc);split at h
  all_goals first
   |(cases h;done)
   |(rename_i ha;rw[ha]at a1;have ea:=a1.resolve_left (λe=>by cases e);simp only[tr,trN]at ea;simp only[xop,ea];exact keep _ _ h (by simp only[tr]) (by simp only[Gd,plainV]))
 case nck x=>
  simp only[LOp.consts,y4,o4,e9]at hc;obtain⟨a1,a2⟩:=cA he x (aV hc);split at h
  all_goals first
   |(cases h;done)
   |(rename_i ha;rw[ha]at a1 a2;have ea:=a1.resolve_left (λe=>by cases e);simp only[tr,trN]at ea;simp only[xop,ea];exact keep _ _ h (by simp only[tr,trN]) a2)
 case mx most x y=>simp only[LOp.consts,y4,o4,e9,x5]at hc;obtain⟨a1,a2⟩:=cA he x (aV hc.1);obtain⟨x1,x2⟩:=cA he y (aV hc.2);split at h;{rename_i k a k' b ha hx;obtain⟨hb,h⟩:=aF h;rw[ha]at a1;rw[hx]at x1;have ea:x.val env= .int k a:=a1.elim (λe=>by cases e) (λe=>by simpa only[tr]using e);have ex:y.val env= .int k' b:=x1.elim (λe=>by cases e) (λe=>by simpa only[tr]using e);simp only[xop,ea,ex];exact⟨by simpa using hb,keep _ _ h (by cases most<;>simp only[tr]) (by simp only[Gd,plainV])⟩};{cases h}
 case sh left x y=>simp only[LOp.consts,y4,o4,e9,x5]at hc;obtain⟨a1,a2⟩:=cA he x (aV hc.1);obtain⟨x1,x2⟩:=cA he y (aV hc.2);split at h;{rename_i k a k' b ha hx;obtain⟨hb,h⟩:=bD h;rw[ha]at a1;rw[hx]at x1;have ea:x.val env= .int k a:=a1.elim (λe=>by cases e) (λe=>by simpa only[tr]using e);have ex:y.val env= .int k' b:=x1.elim (λe=>by cases e) (λe=>by simpa only[tr]using e);simp only[xop,ea,ex];exact⟨hb,keep _ _ h (by cases left<;>simp only[tr]) (by simp only[Gd,plainV])⟩};{cases h}
 case beq ng offs x y=>simp only[LOp.consts,y4,o4,e9,x5]at hc;obtain⟨a1,a2⟩:=cA he x (aV hc.1);obtain⟨x1,x2⟩:=cA he y (aV hc.2);split at h;{rename_i xs ys ha hx;split at h;{rename_i q hq;rw[ha]at a1;rw[hx]at x1;have ea:x.val env= .agg (trs τ.toTS1 xs):=a1.elim (λe=>by cases e) (λe=>by simpa only[tr]using e);have ex:y.val env= .agg (trs τ.toTS1 ys):=x1.elim (λe=>by cases e) (λe=>by simpa only[tr]using e);simp only[xop,ea,ex,bCs hq];exact keep _ _ h (by cases ng<;>simp only[tr]) (by simp only[Gd,plainV])};{cases h}};{cases h}
 case bld z ps=>simp only[LOp.consts]at hc;obtain⟨hz,h⟩:=aF h;obtain⟨p1,p2⟩:=wA (τ:=τ) (H:=H) (n:=n) hz;split at h;{rename_i cs hcs;obtain⟨f1,f2⟩:=aIf he hcs hc p2;rw[p1]at f1;simp only[xop,f1];exact keep _ _ h (by simp only[tr]) (by simpa only[Gd]using f2)};{cases h}
 case bsl e sz m z ps=>simp only[LOp.consts]at hc;obtain⟨hz,h0⟩:=aF h;clear h;have h:=h0;clear h0;simp only[x5]at hz;obtain⟨r1,rfl⟩:=aBy hz.2;obtain⟨p1,p2⟩:=wA (τ:=τ) (H:=H) (n:=n) hz.1;split at h;{rename_i cs hcs;obtain⟨f1,f2⟩:=aIf he hcs hc (Gds.rep p2 m);rw[aVp,p1]at f1;split at h;{rename_i xs hxs;obtain⟨c1,c2⟩:=aCx hxs;simp only[xop,f1,c2];obtain⟨g1,g2⟩:=zT (xs:=xs) r1 hh;exact hK _ _ _ _ _ h (.inr (by simp only[tr,c1])) (by omega) g2 FxH.putRow g1 (aLi (by omega)) (nJ rfl)};{obtain⟨g1,g2⟩:=hh.fresh (t:= .cells e cs (cs.map λ_=>H.q)) ⟨f2,t8 _⟩;simp only[xop,f1];exact hK _ _ _ _ _ h (.inr (by simp only[tr,trN])) (by omega) g2 FxH.putNew g1 (by simp only[Gd,GdN];omega) (nJ rfl)}};{cases h}
 case mk e sz bytes z l=>
  simp only[LOp.consts,y4,o4,e9]at hc;obtain⟨a1,a2⟩:=cA he l (aV hc);split at h
  · rename_i k ha
    obtain⟨hz,h0⟩:=aF h;clear h;have h:=h0;clear h0;simp only[x5]at hz;obtain⟨r1,rfl⟩:=aBy hz.2;obtain⟨p1,p2⟩:=wA (τ:=τ) (H:=H) (n:=n) hz.1;split at h
    · rename_i t ht
      obtain⟨hb,h0⟩:=bD h;clear h;have h:=h0;clear h0;rw[ha]at a1;have ea:l.val env= .int .i64 k:=a1.elim (λe=>by cases e) (λe=>by simpa only[tr]using e);obtain⟨g1,g2⟩:=zT (xs:=j0 k.toNat (τ.mkS e t)) r1 hh
      letI:=τ.inh e
      exact(dJ (aZn (K:=Kp) (c:=τ.av e) (d:=τ.mkS e t) ea hb (by rw[bMa ht,p1]) ⟨hK _ _ _ _ _ h (.inr (by simp only[tr])) (by omega) g2 FxH.putRow g1 (aLi (by omega)) (nJ rfl)⟩).un)
    {obtain⟨hb0,h0⟩:=aF h;clear h;have h:=h0;clear h0;obtain⟨hb,h0⟩:=bD h;clear h;have h:=h0;clear h0;simp only[x5,qJZ]at hb0;obtain⟨⟨b1,b2⟩,b3⟩:=hb0;rw[ha]at a1;have ea:l.val env= .int .i64 k:=a1.elim (λe=>by cases e) (λe=>by simpa only[tr]using e);obtain⟨g1,g2⟩:=hh.fresh (t:= .pmk (τ.ow e) k.toNat (z.map .v)) ⟨p2,by simp only[aDn,t8];omega⟩;have et:trR τ.toTS1 (.pmk (τ.ow e) k.toNat (z.map .v))=⟨e,aR z k.toNat⟩:=(by simp only[trR,p1,b1]);rw[et]at g1;refine(dJ (bEn (K:=Kp) ea hb ⟨hK _ _ _ _ _ h (.inr (by simp only[tr,b2])) (by omega) g2 (FxH.putO λ_ _ _ e=>by cases e) g1 ?_ (nJ rfl)⟩).un);simp only[Gd];exact⟨by omega,λp hp=>by rw[aM,if_pos rfl]at hp;simpa[qN]using hp.symm⟩}
  {cases h}
 case slc sz x lo hi=>
  simp only[LOp.consts,y4,x5,List.all_append]at hc;obtain⟨a1,a2⟩:=cA he x (aV hc.1);split at h
  · rename_i l hl
    have bl:=aLf he hl hc.2.1;split at h;{rename_i ha;split at h;{rename_i u hu;obtain⟨hb,h0⟩:=bD h;clear h;have h:=h0;clear h0;rw[ha]at a1;have ea:x.val env= .nil:=a1.elim (λe=>by cases e) (λe=>by simpa only[tr]using e);simp only[xop,bl,ea,aLf he hu hc.2.2];exact⟨hb,keep _ _ h (by simp only[tr]) (by simp only[Gd,plainV])⟩};{cases h}}
    · rename_i c xs ha
      split at h
      · rename_i u hu
        obtain⟨hs,h0⟩:=aF h;clear h;have h:=h0;clear h0;obtain⟨hb,h0⟩:=bD h;clear h;have h:=h0;clear h0;have hs:=w6 hs;subst hs;rw[ha]at a1;have ea:x.val env= .bor xs.length (fl (τ.av c) xs):=a1.elim (λe=>by cases e) (λe=>by simpa only[tr]using e)
        letI:=τ.inh c
        exact(dJ (bNg (K:=Kp) (c:=τ.av c) (bJ c) ea bl (aLf he hu hc.2.2) hb ⟨keep _ _ h (by simp only[tr]) (by rw[ha]at a2;simpa only[Gd]using a2)⟩).un)
      {cases h}
    · rename_i r0 c m ha
      split at h
      · rename_i u hu
        obtain⟨hs,h0⟩:=aF h;clear h;have h:=h0;clear h0;obtain⟨hb,h0⟩:=bD h;clear h;have h:=h0;clear h0;have hs:=w6 hs;subst hs;rw[ha]at a1 a2;simp only[Gd]at a2;have ea:x.val env= .sref r0 [] 0 m (τ.sz c):=a1.elim (λe=>by cases e) (λe=>by simpa only[tr]using e)
        letI:=τ.inh c
        exact(dJ (bBu (K:=Kp) ea bl (aLf he hu hc.2.2) hb ⟨keep _ _ h (by simp only[tr,p9]) (by simp only[Gd];exact⟨a2.1,m,by omega,a2.2⟩)⟩).un)
      {cases h}
    · rename_i r0 c i m ha
      split at h
      · rename_i u hu
        obtain⟨hs,h0⟩:=aF h;clear h;have h:=h0;clear h0;obtain⟨hb,h0⟩:=bD h;clear h;have h:=h0;clear h0;have hs:=w6 hs;subst hs;rw[ha]at a1 a2;simp only[Gd]at a2;obtain⟨b1,q,b2,b3⟩:=a2;have ea:x.val env= .sref r0 [] (i*τ.sz c) m (τ.sz c):=a1.elim (λe=>by cases e) (λe=>by simpa only[tr]using e)
        letI:=τ.inh c
        exact(dJ (bBu (K:=Kp) ea bl (aLf he hu hc.2.2) hb ⟨keep _ _ h (by simp only[tr,Nat.add_mul]) (by simp only[Gd];exact⟨b1,q,by omega,b3⟩)⟩).un)
      {cases h}
    {cases h}
  {cases h}
 case app e sz bytes z s x=>
  simp only[LOp.consts,y4,o4,e9,x5]at hc;obtain⟨a1,a2⟩:=cA he s (aV hc.1);obtain⟨x1,x2⟩:=cA he x (aV hc.2);split at h;{rename_i r2 e2 m hx;rw[hx]at x1 x2;simp only[Gd,GdN]at x2;split at h;{rename_i e' us ts hr;obtain⟨hb,h0⟩:=aF h;simp only[x5,qJZ]at hb;obtain⟨⟨b1,b2⟩,b3⟩:=hb;obtain⟨r1,rfl⟩:=aBy b1;subst b2;have ex:x.val env= .sref r2 [] 0 m (τ.sz e2):=x1.elim (λe=>by cases e) (λe=>by simpa only[tr,trN]using e);have hus:=(hh.cells _ _ _ _ hr).1;refine bCg h0 a1 a2 hus b3 rfl ?_ hh hK;have hg:Hp.get r2 []=some ⟨e',trs τ.toTS1 us⟩:=dS hh hr;simp only[ex,cY,hg,cC];rw[if_pos ⟨trivial,by omega⟩,iF hus.noOwn,List.drop_zero,List.take_of_length_le (by rw[cC];omega)]};{cases h}};{rename_i e2 m us hx;rw[hx]at x1 x2;simp only[Gd]at x2;obtain⟨hb,h0⟩:=aF h;simp only[x5,qJZ]at hb;obtain⟨⟨b1,b2⟩,b3⟩:=hb;obtain⟨r1,rfl⟩:=aBy b1;subst b2;have ex:x.val env= .bor m (trs τ.toTS1 us):=x1.elim (λe=>by cases e) (λe=>by simpa only[tr]using e);refine bCg h0 a1 a2 x2 b3 rfl ?_ hh hK;simp only[ex,cY,cC];rw[if_pos b3]};rename_i hne1 hne2;split at h
  · rename_i ys hy
    obtain⟨hz,h0⟩:=aF h;clear h;have h:=h0;clear h0;obtain⟨r1,rfl⟩:=aBy hz;obtain⟨y1,y2⟩:=aIh hy x2 hh;have ex:=x1.resolve_left y2;rw[<-ex]at y1
    letI:=τ.inh e
    split at h;{rename_i ha;obtain⟨hb,h0⟩:=bD h;clear h;have h:=h0;clear h0;rw[ha]at a1;have ea:s.val env= .nil:=a1.elim (λe=>by cases e) (λe=>by simpa only[tr]using e);obtain⟨g1,g2⟩:=zT (xs:=ys) r1 hh;exact(dJ (bJg (K:=Kp) y1 (.inl ea) hb ⟨hK _ _ _ _ _ h (.inr (by simp only[tr])) (by omega) g2 FxH.putRow g1 (aLi (by omega)) (nJ rfl)⟩).un)};{rename_i ha;obtain⟨hb,h0⟩:=bD h;clear h;have h:=h0;clear h0;rw[ha]at a1;have ea:s.val env= .emp:=a1.elim (λe=>by cases e) (λe=>by simpa only[tr]using e);obtain⟨g1,g2⟩:=zT (xs:=ys) r1 hh;exact(dJ (bJg (K:=Kp) y1 (.inr ea) hb ⟨hK _ _ _ _ _ h (.inr (by simp only[tr])) (by omega) g2 FxH.putRow g1 (aLi (by omega)) (nJ rfl)⟩).un)};{rename_i r0 c0 k ha;split at h;{rename_i xs hx;obtain⟨hb,h0⟩:=bD h;clear h;have h:=h0;clear h0;rw[ha]at a1 a2;have hr:=(aSb hx).1;simp only[Gd]at a2;obtain⟨e1,e2⟩:=a2.2.row hr;subst e1;have ea:s.val env= .sref r0 [] 0 k (τ.sz e):=a1.elim (λe=>by cases e) (λe=>by simpa only[tr]using e);obtain⟨k1,k2⟩:=hh.kill a2.1;obtain⟨g1,g2⟩:=zT (xs:=xs++ys) r1 k1;have hg:Hp.get r0 []=some ⟨e,fl (τ.av e) xs⟩:=(by have:=dS hh hr;simpa only[trR,r1]using this);exact(dJ (cCj (K:=Kp) (c:=τ.av e) e2.symm (bJ e) y1 ea hg hb ⟨hK _ _ _ _ _ h (.inr (by simp only[tr])) (by omega) (k2.trans (k9 n) g2) (kill_fx.trans FxH.putRow) g1 (aLi (by omega)) ⟨λh=>(by cases h),λi hi hne=>by rw[cQ,if_neg (by omega)];simp only[Heap.kill];rw[cQ,if_neg (λe=>hne (by simp only[trn,ha,bC,e,u9]))]⟩⟩).un)};{cases h}};{cases h}
  {cases h}
 case cpy sz d s=>
  simp only[LOp.consts,y4,o4,e9,x5]at hc;obtain⟨a1,a2⟩:=cA he d (aV hc.1);obtain⟨x1,x2⟩:=cA he s (aV hc.2);split at h
  · rename_i r0 c k ha
    split at h
    · rename_i xs ys hx hy
      obtain⟨hs,h0⟩:=aF h;clear h;have h:=h0;clear h0;have hs:=w6 hs;subst hs;obtain⟨y1,y2⟩:=aIh hy x2 hh;rw[<-x1.resolve_left y2]at y1;rw[ha]at a1 a2;obtain⟨hr,hpl⟩:=aSb hx;simp only[Gd]at a2;obtain⟨_,e2⟩:=a2.2.row hr;have ea:d.val env= .sref r0 [] 0 k (τ.sz c):=a1.elim (λe=>by cases e) (λe=>by simpa only[tr]using e)
      letI:=τ.inh c
      obtain⟨g1,g2⟩:=hh.rowTurn (ys:=over xs 0 k ys) hr (bEv hpl (aKx (by omega)).symm);have hg:Hp.get r0 []=some ⟨τ.tid c,fl (τ.av c) xs⟩:=dS hh hr;have hg1:Hp.get1 r0=some ⟨τ.tid c,fl (τ.av c) xs⟩:=hg;exact(dJ (aLe (K:=Kp) (c:=τ.av c) (i:=0) (bJ c) y1 ea hg (by omega) (by omega) rfl ⟨hK _ _ _ _ _ h (.inr (by simp only[tr])) (k9 n) g2 FxH.putRow (by simpa only[Heap.put,hg1]using g1) (by simp only[Gd,plainV]) (aCk rfl (by simp only[trn,ha,bC]))⟩).un)
    {cases h}
  · rename_i r0 c i k ha
    split at h
    · rename_i xs ys hx hy
      obtain⟨hs,h0⟩:=aF h;clear h;have h:=h0;clear h0;have hs:=w6 hs;subst hs;obtain⟨y1,y2⟩:=aIh hy x2 hh;rw[<-x1.resolve_left y2]at y1;rw[ha]at a1 a2;obtain⟨hr,hpl⟩:=aSb hx;simp only[Gd]at a2;obtain⟨_,m,hm,hrl⟩:=a2;obtain⟨_,e2⟩:=hrl.row hr;have ea:d.val env= .sref r0 [] (i*τ.sz c) k (τ.sz c):=a1.elim (λe=>by cases e) (λe=>by simpa only[tr]using e)
      letI:=τ.inh c
      obtain⟨g1,g2⟩:=hh.rowTurn (ys:=over xs i k ys) hr (bEv hpl (aKx (by omega)).symm);have hg:Hp.get r0 []=some ⟨τ.tid c,fl (τ.av c) xs⟩:=dS hh hr;have hg1:Hp.get1 r0=some ⟨τ.tid c,fl (τ.av c) xs⟩:=hg;exact(dJ (aLe (K:=Kp) (c:=τ.av c) (i:=i) (bJ c) y1 ea hg rfl (by omega) rfl ⟨hK _ _ _ _ _ h (.inr (by simp only[tr])) (k9 n) g2 FxH.putRow (by simpa only[Heap.put,hg1]using g1) (by simp only[Gd,plainV]) (aCk rfl (by simp only[trn,ha,bC]))⟩).un)
    {cases h}
  {cases h}
 all_goals (cases h)
end
theorem aGv{τ:TS}{c' c:Nat}(h:τ.un c'=c):τ.T c'=τ.T c:=(τ.tu c').trans (congrArg τ.T h)
def aZl{τ:TS1}(H:TH τ.toTS):(a:Lf)->TV τ.toTS->Option (a.T τ.toTS)
 | .i k,.v (.int k' z)=>gb (decide (k'=k)) (some z)
 | .b,.v (.bool t)=>some t
 | .row c,v=>pO H c v
 |_,_=>none
def aVe{τ:TS1}(H:TH τ.toTS):(l:List Lf)->List (TV τ.toTS)->Option (Tup τ.toTS l)
 |[],[]=>some ()
 |[a],[v]=>aZl H a v
 |a::b::l,v::vs=>match aZl H a v with
  |some x=>match aVe H (b::l) vs with
   |some t=>some (x,t)
   |none=>none
  |none=>none
 |_,_=>none
def bKp(τ:TS1)(H:TH τ.toTS)(c:Nat)(vs:List (TV τ.toTS)):Option (τ.T c):=match aVe H (τ.lf c) vs with|some t=>some (τ.mkS c t)|none=>none
def aLo{τ:TS1}(H:TH τ.toTS)(c:Nat):TV τ.toTS->Option (List (τ.T c))
 | .ws r c0 k=>match pO H c (.ws r c0 k)with
  |some xs=>some xs
  |none=>match lkH H r with
   |some (.row c' xs)=>gb (τ.el c') (if h:τ.un c'=c then some (cast (congrArg List (aGv h)) xs)else none)
   |some (.pst c' xs i off us)=>gb (τ.el c'&&f9 off 0&&f9 us.length (τ.sz c')) (if h:τ.un c'=c then match bKp τ H c us with
    |some y=>some ((cast (congrArg List (aGv h)) xs).set i y)
    |none=>none
    else none)
   |_=>none
 |v=>pO H c v
def bMo{τ:TS1}(H:TH τ.toTS):(a:Lf)->TV τ.toTS->Option (a.T τ.toTS)
 | .i k,.v (.int k' z)=>gb (decide (k'=k)) (some z)
 | .b,.v (.bool t)=>some t
 | .row c,v=>aLo H c v
 |_,_=>none
def bAr{τ:TS1}(H:TH τ.toTS):(l:List Lf)->List (TV τ.toTS)->Option (Tup τ.toTS l)
 |[],[]=>some ()
 |[a],[v]=>bMo H a v
 |a::b::l,v::vs=>match bMo H a v with
  |some x=>match bAr H (b::l) vs with
   |some t=>some (x,t)
   |none=>none
  |none=>none
 |_,_=>none
def bJr(τ:TS1)(H:TH τ.toTS)(c:Nat)(vs:List (TV τ.toTS)):Option (τ.T c):=match bAr H (τ.lf c) vs with|some t=>some (τ.mkS c t)|none=>none
inductive PK where
 |i (k:IntKind)
 |b
 |row (c:Nat)
 |st (c:Nat)
 |rb (c:Nat)
 |sb (c:Nat)
abbrev PK.T(τ:TS):PK->Type
 | .i _=>Int
 | .b=>Bool
 | .row c=>List (τ.T c)
 | .st c=>τ.T c
 | .rb c=>List (τ.T c)
 | .sb c=>τ.T c
abbrev Cur(τ:TS):List PK->Type->Type
 |[],R=>R
 |p::ps,R=>p.T τ->Cur τ ps R
def bMj(τ:TS1)(H:TH τ.toTS):(p:PK)->TV τ.toTS->Option (p.T τ.toTS)
 | .i k,.v (.int k' z)=>gb (decide (k'=k)) (some z)
 | .b,.v (.bool t)=>some t
 | .row c,v=>aLo H c v
 | .st c,.agg vs=>bJr τ H c vs
 | .rb c,v=>aLo H c v
 | .sb c,.agg vs=>bJr τ H c vs
 |_,_=>none
def avP(τ:TS1):(p:PK)->p.T τ.toTS->AV
 | .i k,z=> .int k z
 | .b,t=> .bool t
 | .row c,xs=> .bor (x9 (α:=τ.T c) xs) (fl (τ.av c) xs)
 | .st c,x=> .agg (τ.av c x)
 | .rb c,xs=> .bor (x9 (α:=τ.T c) xs) (fl (τ.av c) xs)
 | .sb c,x=> .agg (τ.av c x)
def aWy(τ:TS1)(H:TH τ.toTS){X:Type}:(ps:List PK)->Cur τ.toTS ps (Option X)->List (TV τ.toTS)->Option X
 |[],F,[]=>F
 |p::ps,F,v::vs=>match bMj τ H p v with
  |some x=>aWy τ H ps (F x) vs
  |none=>none
 |_,_,_=>none
def SgP(τ:TS1)(P:Program)(f:FuncId){X:Type}(res:X->AV):(ps:List PK)->List AV->Cur τ.toTS ps (Option X)->Prop
 |[],acc,F=>∀x,F=some x->Fn P f acc (res x)
 |p::ps,acc,F=>∀x:p.T τ.toTS,SgP τ P f res ps (acc++[avP τ p x]) (F x)
section
variable {τ : TS2} {R : Type} {r : R} {P : Program} {H : TH τ.toTS} {n : Nat} {Hp : Heap}
theorem aRp{c:Nat}{v:TV τ.toTS}{xs:List (τ.T c)}(h:pO H c v=some xs)(hg:Gd H n v)(hh:HtOk τ.toTS1 H n Hp):Clo Hp (tr τ.toTS1 v) (.bor xs.length (fl (τ.av c) xs))/\v≠ .v .unk:=by
 unfold pO at h;split at h;{split at h;{rename_i e;subst e;cases h;simp only[Gd]at hg;exact⟨by simp only[tr];exact aE (rW (bL λx=>τ.cln _ x hg)),λe=>by cases e⟩};{cases h}}
 · rename_i r0 c0 k
   split at h
   · rename_i c' ys hr
     obtain⟨hp,h1⟩:=aF h;split at h1
     · rename_i e;subst e;cases h1
       simp only[Gd]at hg;obtain⟨e1,e2⟩:=hg.2.row hr;subst e1
       letI:=τ.inh c'
       exact⟨by simp only[tr];exact eT e2.symm (bJ c') (xB hp) (λx=>τ.cln c' x hp) (dS hh hr),λe=>by cases e⟩
     {cases h1}
   {cases h}
 · rename_i r0 c0 i k
   split at h
   · rename_i c' ys hr
     obtain⟨hp,h1⟩:=aF h;split at h1
     · rename_i e;subst e;cases h1
       simp only[Gd]at hg;obtain⟨_,m,hm,hrl⟩:=hg;obtain⟨e1,e2⟩:=hrl.row hr;subst e1
       letI:=τ.inh c'
       exact⟨by simp only[tr];exact bVa (bJ c') (xB hp) (λx=>τ.cln c' x hp) (dS hh hr) rfl (by omega),λe=>by cases e⟩
     {cases h1}
   {cases h}
 · rename_i r0 c0 i o c2 k
   split at h
   · rename_i c' xs' hr
     split at h
     · rename_i c3 ys hy
       obtain⟨hp,h1⟩:=aF h;split at h1
       · rename_i e;subst e;cases h1
         simp only[Gd,GdN]at hg;obtain⟨hrn,hlf,hin⟩:=hg;obtain⟨rfl,hi,hk⟩:=hin _ _ (.inl hr);have e1:=(pV hy).1;rw[hlf]at e1;cases e1;rw[vJ hy]at hk
         letI:=τ.inh c'
         letI:=τ.inh c2
         have hg0:Hp.get r0 []=some ⟨τ.tid c',fl (τ.av c') xs'⟩:=dS hh hr;have hg1:=aFm (o:=i*τ.sz c'+o) (bJ c') hg0 rfl hi (pV hy).2 rfl (aFp hy);exact⟨by simp only[tr,trN];exact eT hk.symm (bJ c2) (xB hp) (λx=>τ.cln c2 x hp) hg1,λe=>by cases e⟩
       {cases h1}
     {cases h}
   {cases h}
 {cases h;exact⟨by simp only[tr];exact .nil0,λe=>by cases e⟩};{cases h;exact⟨by simp only[tr];exact .emp0,λe=>by cases e⟩};{cases h}
theorem aFq{c' c:Nat}(h:τ.un c'=c)(xs:List (τ.T c')):fl (τ.av c) (cast (congrArg List (aGv h)) xs)=fl (λx=>τ.av (τ.un c') (cast (τ.tu c') x)) xs/\(cast (congrArg List (aGv h)) xs).length=xs.length:=by subst h;have:∀{A B:Type} (e:A=B) (e2:List A=List B) (f:B->List AV) (xs:List A),fl f (cast e2 xs)=fl (λx=>f (cast e x)) xs/\(cast e2 xs).length=xs.length:=(by intro A B e e2 f xs;subst e;exact⟨rfl,rfl⟩);exact this _ _ _ _
theorem bVo{c' c:Nat}(h:τ.un c'=c)(xs:List (τ.T c'))(i:Nat)(y:τ.T c):fl (τ.av c) ((cast (congrArg List (aGv h)) xs).set i y)=fl (λx=>τ.av (τ.un c') (cast (τ.tu c') x)) (xs.set i (cast (aGv h).symm y))/\((cast (congrArg List (aGv h)) xs).set i y).length=(xs.set i (cast (aGv h).symm y)).length/\τ.av (τ.un c') (cast (τ.tu c') (cast (aGv h).symm y))=τ.av c y:=by subst h;have:∀{A B:Type} (e:A=B) (e2:List A=List B) (f:B->List AV) (xs:List A) (y:B),fl f ((cast e2 xs).set i y)=fl (λx=>f (cast e x)) (xs.set i (cast e.symm y))/\((cast e2 xs).set i y).length=(xs.set i (cast e.symm y)).length/\f (cast e (cast e.symm y))=f y:=(by intro A B e e2 f xs y;subst e;exact⟨rfl,rfl,rfl⟩);exact this _ _ _ _ _
theorem bDg{a:Lf}{v:TV τ.toTS}{x:a.T τ.toTS}(h:aZl H a v=some x)(hg:Gd H n v)(hh:HtOk τ.toTS1 H n Hp):Clo Hp (tr τ.toTS1 v) (tr τ.toTS1 (cO τ.toTS a x)):=by unfold aZl at h;split at h;{obtain⟨hb,h⟩:=aF h;cases h;have:=of_decide_eq_true hb;subst this;simp only[cO,tr];exact .int _ _};{cases h;simp only[cO,tr];exact .bool _};{simp only[cO,tr];exact(aRp h hg hh).1};{cases h}
theorem bBb(hh:HtOk τ.toTS1 H n Hp):∀(l:List Lf) (vs:List (TV τ.toTS)) (t:Tup τ.toTS l),aVe H l vs=some t->Gds H n vs->Clos Hp (trs τ.toTS1 vs) (trs τ.toTS1 (cB τ.toTS l t))
 |[],[],t,h,hg=>by simp only[trs,cB];exact .nil
 |[],v::vs,t,h,hg=>by cases h
 |[a],[],t,h,hg=>by cases h
 |[a],[v],t,h,hg=>by simp only[aVe]at h;simp only[Gds]at hg;simp only[trs,cB];exact .cons _ _ _ _ (bDg h hg.1 hh) .nil
 |[a],v::w::vs,t,h,hg=>by cases h
 |a::b::l,[],t,h,hg=>by cases h
 |a::b::l,v::vs,t,h,hg=>by simp only[aVe]at h;split at h;{rename_i x hx;split at h;{rename_i u hu;cases h;unfold Gds at hg;simp only[trs,cB];exact .cons _ _ _ _ (bDg hx hg.1 hh) (bBb hh (b::l) vs u hu hg.2)};{cases h}};{cases h}
theorem bXj{c:Nat}{vs:List (TV τ.toTS)}{x:τ.T c}(h:bKp τ.toTS1 H c vs=some x)(hg:Gds H n vs)(hh:HtOk τ.toTS1 H n Hp):Clos Hp (trs τ.toTS1 vs) (τ.av c x):=by unfold bKp at h;split at h;{rename_i t ht;cases h;rw[τ.avE];unfold encS;rw[τ.mkP];exact bBb hh _ _ _ ht hg};{cases h}
theorem zW{c:Nat}{v:TV τ.toTS}{xs:List (τ.T c)}(h:aLo H c v=some xs)(hg:Gd H n v)(hh:HtOk τ.toTS1 H n Hp):Clo Hp (tr τ.toTS1 v) (.bor xs.length (fl (τ.av c) xs))/\v≠ .v .unk:=by
 unfold aLo at h;split at h
 · rename_i r0 c0 k
   split at h;{rename_i ys hy;cases h;exact aRp hy hg hh}
   · split at h
     · rename_i c' ys hr
       obtain⟨he,h1⟩:=aF h;split at h1
       · rename_i e
         cases h1;simp only[Gd]at hg;obtain⟨e1,e2⟩:=hg.2.row hr;subst e1
         letI:=τ.inh c'
         obtain⟨f1,f2⟩:=aFq e ys;refine⟨?_,λe=>by cases e⟩;rw[f1,f2];simp only[tr];exact aXn (τ.clo c' he) (bJ c') e2.symm (dS hh hr)
       {cases h1}
     · rename_i c' ys i off us hr
       obtain⟨he,h1⟩:=aF h;simp only[x5]at he;obtain⟨⟨he,ho⟩,hl⟩:=he;have ho:=w6 ho;have hl:=w6 hl;subst ho;split at h1
       · rename_i e
         split at h1
         · rename_i y hy
           cases h1;simp only[Gd]at hg;have hd:=hg.2 _ (by rw[hr];rfl:(lkH H r0).bind qN=some _);obtain⟨hgs,hto⟩:=hh.all _ _ hr;obtain⟨f1,f2,f3⟩:=bVo e ys i y;refine⟨?_,λe=>by cases e⟩;rw[f1,f2];simp only[tr]
           letI:=τ.inh c'
           simp only[Prod.mk.injEq]at hd;obtain⟨rfl,rfl⟩:=hd;exact bXp (τ.clo c' he) (bJ c') rfl (by rw[hh.heap,hr];rfl) (by omega) hto.1 (by rw[cC];exact hl) (Gds.noOwn hgs) (bXj hy hgs hh) f3.symm rfl
         {cases h1}
       {cases h1}
     {cases h}
 {exact aRp h hg hh}
theorem bGq{a:Lf}{v:TV τ.toTS}{x:a.T τ.toTS}(h:bMo H a v=some x)(hg:Gd H n v)(hh:HtOk τ.toTS1 H n Hp):Clo Hp (tr τ.toTS1 v) (tr τ.toTS1 (cO τ.toTS a x)):=by unfold bMo at h;split at h;{obtain⟨hb,h⟩:=aF h;cases h;have:=of_decide_eq_true hb;subst this;simp only[cO,tr];exact .int _ _};{cases h;simp only[cO,tr];exact .bool _};{simp only[cO,tr];exact(zW h hg hh).1};{cases h}
theorem bGj(hh:HtOk τ.toTS1 H n Hp):∀(l:List Lf) (vs:List (TV τ.toTS)) (t:Tup τ.toTS l),bAr H l vs=some t->Gds H n vs->Clos Hp (trs τ.toTS1 vs) (trs τ.toTS1 (cB τ.toTS l t))
 |[],[],t,h,hg=>by simp only[trs,cB];exact .nil
 |[],v::vs,t,h,hg=>by cases h
 |[a],[],t,h,hg=>by cases h
 |[a],[v],t,h,hg=>by simp only[bAr]at h;simp only[Gds]at hg;simp only[trs,cB];exact .cons _ _ _ _ (bGq h hg.1 hh) .nil
 |[a],v::w::vs,t,h,hg=>by cases h
 |a::b::l,[],t,h,hg=>by cases h
 |a::b::l,v::vs,t,h,hg=>by simp only[bAr]at h;split at h;{rename_i x hx;split at h;{rename_i u hu;cases h;unfold Gds at hg;simp only[trs,cB];exact .cons _ _ _ _ (bGq hx hg.1 hh) (bGj hh (b::l) vs u hu hg.2)};{cases h}};{cases h}
theorem bRh{c:Nat}{vs:List (TV τ.toTS)}{x:τ.T c}(h:bJr τ.toTS1 H c vs=some x)(hg:Gds H n vs)(hh:HtOk τ.toTS1 H n Hp):Clos Hp (trs τ.toTS1 vs) (τ.av c x):=by unfold bJr at h;split at h;{rename_i t ht;cases h;rw[τ.avE];unfold encS;rw[τ.mkP];exact bGj hh _ _ _ ht hg};{cases h}
theorem bIv{p:PK}{v:TV τ.toTS}{x:p.T τ.toTS}(h:bMj τ.toTS1 H p v=some x)(hg:Gd H n v)(hh:HtOk τ.toTS1 H n Hp):Clo Hp (tr τ.toTS1 v) (avP τ.toTS1 p x)/\v≠ .v .unk:=by unfold bMj at h;split at h;{obtain⟨hb,h⟩:=aF h;cases h;have:=of_decide_eq_true hb;subst this;exact⟨by simp only[tr,avP];exact .int _ _,λe=>by cases e⟩};{cases h;exact⟨by simp only[tr,avP];exact .bool _,λe=>by cases e⟩};{exact⟨by simp only[avP];exact(zW h hg hh).1,(zW h hg hh).2⟩};{exact⟨by simp only[avP,tr];exact .agg _ _ (bRh h (by simpa only[Gd]using hg) hh),λe=>by cases e⟩};{exact⟨by simp only[avP];exact(zW h hg hh).1,(zW h hg hh).2⟩};{exact⟨by simp only[avP,tr];exact .agg _ _ (bRh h (by simpa only[Gd]using hg) hh),λe=>by cases e⟩};{cases h}
theorem bEs{H:Heap}:∀{as bs as' bs':List AV},Cloz H as bs->Cloz H as' bs'->Cloz H (as++as') (bs++bs')
 |[],_,_,_,h,k=>by simp only[Cloz]at h;subst h;exact k
 |a::as,_,_,_,h,k=>by simp only[Cloz]at h;obtain⟨y,ys,rfl,h1,h2⟩:=h;exact⟨y,_,rfl,h1,bEs h2 k⟩
def VsOk(τ:TS1):List (TV τ.toTS)->List AV->Prop
 |[],as=>as=[]
 |v::vs,as=>∃a as',as=a::as'/\(v= .v .unk\/a=tr τ v)/\VsOk τ vs as'
theorem aFo{f:FuncId}{X:Type}{res:X->AV}(hh:HtOk τ.toTS1 H n Hp){x:X}:∀{ps:List PK} {F:Cur τ.toTS ps (Option X)} {vs:List (TV τ.toTS)} {as us acc:List AV},aWy τ.toTS1 H ps F vs=some x->SgP τ.toTS1 P f res ps acc F->Gds H n vs->
 VsOk τ.toTS1 vs as->Cloz Hp us acc->∃args,Cloz Hp (us++as) args/\Fn P f args (res x)
 |[],F,[],as,us,acc,h,hs,_,hf,hc=>by simp only[VsOk]at hf;subst hf;simp only[SgP]at hs;exact⟨acc,by simpa using hc,hs x h⟩
 |[],F,v::vs,_,_,_,h,_,_,_,_=>by cases h
 |p::ps,F,[],_,_,_,h,_,_,_,_=>by cases h
 |p::ps,F,v::vs,as,us,acc,h,hs,hg,hf,hc=>by simp only[aWy]at h;split at h;{rename_i y hy;simp only[VsOk]at hf;obtain⟨a,as',rfl,h1,h2⟩:=hf;simp only[Gds]at hg;obtain⟨d1,d2⟩:=bIv hy hg.1 hh;have ea:=h1.resolve_left d2;obtain⟨args,e1,e2⟩:=aFo (us:=us++[a]) hh h (hs y) hg.2 h2 (bEs hc ⟨_,[],rfl,by rw[ea];exact d1,rfl⟩);exact⟨args,by simpa using e1,e2⟩};{cases h}
def aTm(τ:TS)(c:Nat):Bool:=(τ.lf c).all λ| .row _=>false| .own _=>false|_=>true
def gU{τ:TS}:List (TV τ)->TH τ->Nat->List (TV τ)×TH τ×Nat
 |[],H,n=>([],H,n)
 | .bor c xs::vs,H,n=>match gU vs (H.put n (some (.row c xs))) (n+1)with|(ws,H',n')=>(.ws n c xs.length::ws,H',n')
 |v::vs,H,n=>match gU vs H n with|(ws,H',n')=>(v::ws,H',n')
def mM(τ:TS1):(p:PK)->p.T τ.toTS->TH τ.toTS->Nat->TV τ.toTS×TH τ.toTS×Nat
 | .i k,z,H,n=>(.v (.int k z),H,n)
 | .b,t,H,n=>(.v (.bool t),H,n)
 | .row c,xs,H,n=>(.ws n c (x9 (α:=τ.T c) xs),H.put n (some (.row c xs)),n+1)
 | .st c,x,H,n=>match gU (encS τ c x) H n with|(vs,H',n')=>(.agg vs,H',n')
 | .rb c,xs,H,n=>(.bor c xs,H,n)
 | .sb c,x,H,n=>(.agg (encS τ c x),H,n)
inductive RK where
 |one (p:PK)
 |two (p q:PK)
 |three (p q s:PK)
 |tup (p q:PK) (ps:List PK)
abbrev TupP(τ:TS):List PK->Type
 |[]=>Unit
 |[p]=>p.T τ
 |p::q::ps=>p.T τ×TupP τ (q::ps)
abbrev RK.T(τ:TS):RK->Type
 | .one p=>p.T τ
 | .two p q=>p.T τ×q.T τ
 | .three p q s=>p.T τ×q.T τ×s.T τ
 | .tup p q ps=>TupP τ (p::q::ps)
def wT(τ:TS1):(ps:List PK)->TupP τ.toTS ps->TH τ.toTS->Nat->List (TV τ.toTS)×TH τ.toTS×Nat
 |[],_,H,n=>([],H,n)
 |[p],x,H,n=>match mM τ p x H n with|(v,H,n)=>([v],H,n)
 |p::q::ps,x,H,n=>match mM τ p x.1 H n with|(v,H,n)=>match wT τ (q::ps) x.2 H n with|(vs,H,n)=>(v::vs,H,n)
def iZ(τ:TS1):(r:RK)->r.T τ.toTS->TH τ.toTS->Nat->TV τ.toTS×TH τ.toTS×Nat
 | .one p,x,H,n=>mM τ p x H n
 | .two p q,x,H,n=>match mM τ p x.1 H n with|(v,H,n)=>match mM τ q x.2 H n with|(w,H,n)=>(.tup [v,w],H,n)
 | .three p q s,x,H,n=>match mM τ p x.1 H n with|(v,H,n)=>match mM τ q x.2.1 H n with|(w,H,n)=>match mM τ s x.2.2 H n with|(u,H,n)=>(.tup [v,w,u],H,n)
 | .tup p q ps,x,H,n=>match wT τ (p::q::ps) x H n with|(vs,H,n)=>(.tup vs,H,n)
def tR(τ:TS1):TV τ.toTS->AV
 | .bor c xs=> .own (τ.tid c) (τ.sz c) xs.length (fl (τ.av c) xs)
 |v=>tr τ v
def avO(τ:TS1):(p:PK)->p.T τ.toTS->AV
 | .i k,z=> .int k z
 | .b,t=> .bool t
 | .row c,xs=> .own (τ.tid c) (τ.sz c) (x9 (α:=τ.T c) xs) (fl (τ.av c) xs)
 | .st c,x=> .agg ((encS τ c x).map (tR τ))
 | .rb c,xs=> .bor (x9 (α:=τ.T c) xs) (fl (τ.av c) xs)
 | .sb c,x=> .agg (τ.av c x)
def tE(τ:TS1):(ps:List PK)->TupP τ.toTS ps->List AV
 |[],_=>[]
 |[p],x=>[avO τ p x]
 |p::q::ps,x=>avO τ p x.1::tE τ (q::ps) x.2
def avR(τ:TS1):(r:RK)->r.T τ.toTS->AV
 | .one p,x=>avO τ p x
 | .two p q,x=> .tup [avO τ p x.1,avO τ q x.2]
 | .three p q s,x=> .tup [avO τ p x.1,avO τ q x.2.1,avO τ s x.2.2]
 | .tup p q ps,x=> .tup (tE τ (p::q::ps) x)
theorem aQs{n:Nat}:∀{vs:List AV},noOwn vs=true->eV n vs=(vs,[],n)
 |[],_=>rfl
 |v::vs,h=>by have h1:v.node=none:=(by have:=vN h 0;simpa using this);have h2:noOwn vs=true:=(by simp only[noOwn,y4,x5]at h ⊢;exact h.2);have h3:eG n v=(v,[],n):=(by cases v<;>first|rfl|cases h1);simp only[eV,h3,aQs h2,r8]
def kI{τ:TS}:TV τ->Bool
 | .v (.int _ _)=>true
 | .v (.bool _)=>true
 | .bor _ _=>true
 |_=>false
theorem aRx:∀{vs:List (TV τ.toTS)} {H:TH τ.toTS} {n:Nat} {Hp:Heap},(∀v∈vs,kI v=true)->HtOk τ.toTS1 H n Hp->
 ∃ws H' n' Hr,gU vs H n=(ws,H',n')/\eV n (vs.map (tR τ.toTS1))=(trs τ.toTS1 ws,Hr,n')/\n<=n'/\Ext H n H'/\FxH H H'/\HtOk τ.toTS1 H' n' (Hr++Hp)/\Gds H' n' ws
 |[],H,n,Hp,_,hh=>⟨[],H,n,[],rfl,rfl,k9 n,Ext.refl,FxH.refl,hh,by simp only[Gds]⟩
 |v::vs,H,n,Hp,hv,hh=>by have hv0:=hv v (by simp);have hvs:∀v∈vs,kI v=true:=λx hx=>hv x (by simp[hx]);(cases v with|bor c xs=>obtain⟨f1,f2⟩:=hh.fresh (t:= .row c xs) mV;obtain⟨ws,H',n',Hr,e1,e2,e3,e4,ex,e5,e6⟩:=aRx hvs f1;refine⟨.ws n c xs.length::ws,H',n',Hr++[(n,some ⟨τ.tid c,fl (τ.av c) xs⟩)],by simp only[gU,e1],?_,by omega,f2.trans (by omega) e4,FxH.putRow.trans ex,?_,?_⟩;{simp only[m5,tR,eV,eG,e2,trs,tr]};{simpa only[qQY,n7,r6,trR]using e5};{simp only[Gds,Gd];refine⟨⟨by omega,?_⟩,e6⟩;have:RowLen (H.put n (some (TR.row c xs))) n c xs.length:=RowLen.put;exact this.ext1 (e4 n (y8 n))}|v a=>obtain⟨ws,H',n',Hr,e1,e2,e3,e4,ex,e5,e6⟩:=aRx hvs hh;refine⟨.v a::ws,H',n',Hr,by simp only[gU,e1],?_,e3,e4,ex,e5,?_⟩;{cases a<;>simp only[kI]at hv0<;>first|(cases hv0;done)|simp only[m5,tR,tr,eV,eG,e2,trs,r8]};{simp only[Gds];refine⟨?_,e6⟩;cases a<;>simp only[kI]at hv0<;>first|(cases hv0;done)|simp only[Gd,plainV]}|ws _ _ _=>simp only[kI]at hv0;cases hv0|part _ _ _ _=>simp only[kI]at hv0;cases hv0|elt _ _ _ _=>simp only[kI]at hv0;cases hv0|bel _ _ _ _=>simp only[kI]at hv0;cases hv0|agg _=>simp only[kI]at hv0;cases hv0|tup _=>simp only[kI]at hv0;cases hv0|bl _ _ _=>simp only[kI]at hv0;cases hv0|x _=>simp only[kI]at hv0;cases hv0)
def nOw:Lf->Bool
 | .own _=>false
 |_=>true
def wfA(τ:TS):PK->Bool
 | .row c=>τ.pl c
 | .st c=>τ.pl c
 | .rb c=>τ.pl c
 | .sb c=>τ.pl c
 |_=>true
def wfP(τ:TS):PK->Bool
 | .st c=>(τ.lf c).all nOw
 | .rb c=>τ.pl c
 | .sb c=>τ.pl c
 |_=>true
def wfR(τ:TS):RK->Bool
 | .one p=>wfP τ p
 | .two p q=>wfP τ p&&wfP τ q
 | .three p q s=>wfP τ p&&wfP τ q&&wfP τ s
 | .tup p q ps=>(p::q::ps).all (wfP τ)
theorem bOh:∀(a:Lf) (x:a.T τ.toTS),nOw a=true->kI (cO τ.toTS a x)=true
 | .i _,_,_=>rfl
 | .b,_,_=>rfl
 | .row _,_,_=>rfl
 | .own _,_,h=>by cases h
theorem bFe:∀(l:List Lf) (t:Tup τ.toTS l),l.all nOw=true->∀v∈cB τ.toTS l t,kI v=true
 |[],_,_,v,h=>by simp[cB]at h
 |[a],x,hl,v,h=>by simp only[y4,o4,e9]at hl;simp only[cB,u9]at h;subst h;exact bOh a x hl
 |a::b::l,p,hl,v,h=>by rw[y4,x5]at hl;simp only[cB,g8]at h;rcases h with rfl|h;{exact bOh a p.1 hl.1};{exact bFe (b::l) p.2 hl.2 v h}
theorem qJ(p:PK)(x:p.T τ.toTS)(hw:wfP τ.toTS p=true)(hh:HtOk τ.toTS1 H n Hp):
 ∃v H' n' Hr,mM τ.toTS1 p x H n=(v,H',n')/\eL n (avO τ.toTS1 p x)=(tr τ.toTS1 v,Hr,n')/\n<=n'/\Ext H n H'/\FxH H H'/\HtOk τ.toTS1 H' n' (Hr++Hp)/\Gd H' n' v:=by
 (cases p with|i k=>exact⟨_,_,_,[],rfl,rfl,k9 n,Ext.refl,FxH.refl,hh,by simp only[Gd,plainV]⟩|b=>exact⟨_,_,_,[],rfl,rfl,k9 n,Ext.refl,FxH.refl,hh,by simp only[Gd,plainV]⟩|row c=>obtain⟨f1,f2⟩:=hh.fresh (t:= .row c x) mV;refine⟨_,_,_,[(n,some ⟨τ.tid c,fl (τ.av c) x⟩)],rfl,?_,by omega,f2,FxH.putRow,f1,?_⟩;{simp only[avO,eL,eG,tr]};{simp only[Gd];exact⟨by omega,RowLen.put⟩}|st c=>obtain⟨ws,H',n',Hr,e1,e2,e3,e4,ex,e5,e6⟩:=aRx (bFe _ (τ.prj c x) hw) hh;exact⟨.agg ws,H',n',Hr,by simp only[mM,e1],by simp only[avO,eL,e2,tr],e3,e4,ex,e5,by simpa only[Gd]using e6⟩|rb c=>exact⟨_,_,_,[],rfl,by simp only[avO,eL,eG,tr],k9 n,Ext.refl,FxH.refl,hh,by simp only[Gd];exact hw⟩|sb c=>exact⟨_,_,_,[],rfl,by simp only[avO,eL,aQs (xB hw x),tr];rw[τ.avE],k9 n,Ext.refl,FxH.refl,hh,by simp only[Gd];exact oT _ _ (τ.plf c hw)⟩)
theorem bGm:∀(ps:List PK) (x:TupP τ.toTS ps) {H:TH τ.toTS} {n:Nat} {Hp:Heap},ps.all (wfP τ.toTS)=true->HtOk τ.toTS1 H n Hp->
 ∃ws H' n' Hr,wT τ.toTS1 ps x H n=(ws,H',n')/\dW n (tE τ.toTS1 ps x)=(trs τ.toTS1 ws,Hr,n')/\n<=n'/\Ext H n H'/\FxH H H'/\HtOk τ.toTS1 H' n' (Hr++Hp)/\Gds H' n' ws
 |[],x,H,n,Hp,_,hh=>⟨[],H,n,[],rfl,rfl,k9 n,Ext.refl,FxH.refl,hh,by simp only[Gds]⟩
 |[p],x,H,n,Hp,hw,hh=>by simp only[y4,o4,e9]at hw;obtain⟨v,H',n',Hr,e1,e2,e3,e4,ex,e5,e6⟩:=qJ p x hw hh;exact⟨[v],H',n',Hr,by simp only[wT,e1],by simp only[tE,dW,e2,trs,r6],e3,e4,ex,e5,by simp only[Gds];exact⟨e6,trivial⟩⟩
 |p::q::ps,x,H,n,Hp,hw,hh=>by rw[y4,x5]at hw;obtain⟨v,H1,n1,Hr,e1,e2,e3,e4,ex,e5,e6⟩:=qJ p x.1 hw.1 hh;obtain⟨ws,H2,n2,Hs,g1,g2,g3,g4,gx,g5,g6⟩:=bGm (q::ps) x.2 hw.2 e5;refine⟨v::ws,H2,n2,Hs++Hr,by simp only[wT,e1,g1],by simp only[tE,dW,e2,g2,trs],by omega,e4.trans e3 g4,ex.trans gx,by simpa only[qQY]using g5,?_⟩;simp only[Gds];exact⟨e6.ext g3 g4,g6⟩
theorem aCc(s:RK)(x:s.T τ.toTS)(hw:wfR τ.toTS s=true)(hh:HtOk τ.toTS1 H n Hp):
 ∃v H' n' Hr,iZ τ.toTS1 s x H n=(v,H',n')/\bM n (avR τ.toTS1 s x)=(tr τ.toTS1 v,Hr,n')/\n<=n'/\Ext H n H'/\FxH H H'/\HtOk τ.toTS1 H' n' (Hr++Hp)/\Gd H' n' v:=by
 (cases s with|one p=>obtain⟨v,H',n',Hr,e1,e2,e3⟩:=qJ p x hw hh;refine⟨v,H',n',Hr,e1,?_,e3⟩;rw[<-e2];cases p<;>rfl|two p q=>simp only[wfR,x5]at hw;obtain⟨v,H1,n1,Hr,e1,e2,e3,e4,ex,e5,e6⟩:=qJ p x.1 hw.1 hh;obtain⟨w,H2,n2,Hs,g1,g2,g3,g4,gx,g5,g6⟩:=qJ q x.2 hw.2 e5;refine⟨.tup [v,w],H2,n2,Hs++Hr,by simp only[iZ,e1,g1],by simp only[avR,bM,dW,e2,g2,tr,trs,r6],by omega,e4.trans e3 g4,ex.trans gx,by simpa only[qQY]using g5,?_⟩;simp only[Gd,Gds];exact⟨e6.ext g3 g4,g6,trivial⟩|three p q s=>simp only[wfR,x5]at hw;obtain⟨v,H1,n1,Hr,e1,e2,e3,e4,ex,e5,e6⟩:=qJ p x.1 hw.1.1 hh;obtain⟨w,H2,n2,Hs,g1,g2,g3,g4,gx,g5,g6⟩:=qJ q x.2.1 hw.1.2 e5;obtain⟨u,H3,n3,Ht,k1,k2,k3,k4,kx,k5,k6⟩:=qJ s x.2.2 hw.2 g5;refine⟨.tup [v,w,u],H3,n3,Ht++Hs++Hr,by simp only[iZ,e1,g1,k1],by simp only[avR,bM,dW,e2,g2,k2,tr,trs,r6],by omega,(e4.trans e3 g4).trans (by omega) k4,(ex.trans gx).trans kx,by simpa only[qQY]using k5,?_⟩;simp only[Gd,Gds];exact⟨e6.ext (by omega) (g4.trans g3 k4),g6.ext k3 k4,k6,trivial⟩|tup p q ps=>obtain⟨ws,H',n',Hr,e1,e2,e3,e4,ex,e5,e6⟩:=bGm (p::q::ps) x hw hh;exact⟨.tup ws,H',n',Hr,by simp only[iZ,e1],by simp only[avR,bM,e2,tr],e3,e4,ex,e5,by simpa only[Gd]using e6⟩)
def nbB(τ:TS)(c:Nat):Bool:=(τ.lf c).all λ| .row _=>false| .own d=>aTm τ d|_=>true
def okP(τ:TS):PK->Bool
 | .row c=>nbB τ c
 | .st c=>(τ.lf c).all λ| .row c'=>nbB τ c'| .own _=>false|_=>true
 | .rb _=>false
 | .sb _=>false
 |_=>true
def okR(τ:TS):RK->Bool
 | .one p=>okP τ p
 | .two p q=>okP τ p&&okP τ q
 | .three p q s=>okP τ p&&okP τ q&&okP τ s
 | .tup p q ps=>(p::q::ps).all (okP τ)
theorem bHd:∀(l:List Lf) (t:Tup τ.toTS l),(l.all λ| .row _=>false| .own _=>false|_=>true)=true->aN (trs τ.toTS1 (cB τ.toTS l t))=true
 |[],_,_=>rfl
 |[a],x,h=>by cases a<;>first|rfl|(simp at h;done)
 |a::b::l,p,h=>by rw[y4,x5]at h;simp only[cB,trs,aN,x5];refine⟨?_,bHd (b::l) p.2 h.2⟩;have h1:=h.1;cases a<;>first|rfl|(simp at h1;done)
theorem bGp{c:Nat}(h:aTm τ.toTS c=true)(x:τ.T c):aN (τ.av c x)=true:=by rw[τ.avE];exact bHd _ _ h
theorem bOd:∀(l:List Lf) (t:Tup τ.toTS l),(l.all λ| .row _=>false| .own d=>aTm τ.toTS d|_=>true)=true->aN (trs τ.toTS1 (cB τ.toTS l t))=true
 |[],_,_=>rfl
 |[a],x,h=>by rw[y4,x5]at h;have h1:=h.1;(cases a with|i k=>rfl|b=>rfl|row c=>cases h1|own c=>simp only[cB,cO,trs,tr,trN,aN,AV.noBor,e9];exact bK (bGp h1))
 |a::b::l,p,h=>by rw[y4,x5]at h;simp only[cB,trs,aN,x5];refine⟨?_,bOd (b::l) p.2 h.2⟩;have h1:=h.1;(cases a with|i k=>rfl|b=>rfl|row c=>cases h1|own c=>simp only[cO,tr,trN,AV.noBor];exact bK (bGp h1))
theorem bMw{c:Nat}(h:nbB τ.toTS c=true)(x:τ.T c):aN (τ.av c x)=true:=by rw[τ.avE];exact bOd _ _ h
theorem bDx:∀(l:List Lf) (t:Tup τ.toTS l),(l.all λ| .row c'=>nbB τ.toTS c'| .own _=>false|_=>true)=true->aN ((cB τ.toTS l t).map (tR τ.toTS1))=true/\aG ((cB τ.toTS l t).map (tR τ.toTS1))=true
 |[],_,_=>⟨rfl,rfl⟩
 |[a],x,h=>by rw[y4,x5]at h;have h1:=h.1;(cases a with|i k=>exact⟨rfl,rfl⟩|b=>exact⟨rfl,rfl⟩|row c=>exact⟨by simp only[cB,cO,m5,List.map_nil,tR,aN,AV.noBor,e9];exact bK (bMw h1),by simp only[cB,cO,m5,List.map_nil,tR,aG,AV.noRef,e9];exact aC (τ.nr c)⟩|own c=>cases h1)
 |a::b::l,p,h=>by
  rw[y4,x5]at h;have h1:=h.1;obtain⟨i1,i2⟩:=bDx (b::l) p.2 h.2;simp only[cB,m5,aN,aG,x5];refine⟨⟨?_,i1⟩,?_,i2⟩
  · cases a with
    |i k=>rfl
    |b=>rfl
    |row c=>simp only[cO,tR,AV.noBor];exact bK (bMw h1)
    |own c=>cases h1
  · cases a with
    |i k=>rfl
    |b=>rfl
    |row c=>simp only[cO,tR,AV.noRef];exact aC (τ.nr c)
    |own c=>cases h1
theorem nL(p:PK)(x:p.T τ.toTS)(h:okP τ.toTS p=true):(avO τ.toTS1 p x).noBor=true/\(avO τ.toTS1 p x).noRef=true:=by
 (cases p with|i k=>exact⟨rfl,rfl⟩|b=>exact⟨rfl,rfl⟩|row c=>exact⟨by simp only[avO,AV.noBor];exact bK (bMw h),by simp only[avO,AV.noRef];exact aC (τ.nr c)⟩|st c=>exact⟨by simp only[avO,AV.noBor];exact(bDx _ _ h).1,by simp only[avO,AV.noRef];exact(bDx _ _ h).2⟩|rb c=>cases h|sb c=>cases h)
theorem bNn:∀(l:List Lf) (t:Tup τ.toTS l),aG ((cB τ.toTS l t).map (tR τ.toTS1))=true
 |[],_=>rfl
 |[a],x=>by(cases a with|i k=>rfl|b=>rfl|row c=>simp only[cB,cO,m5,List.map_nil,tR,aG,AV.noRef,e9];exact aC (τ.nr c)|own c=>simp only[cB,cO,m5,List.map_nil,tR,tr,trN,aG,AV.noRef,e9];exact aC (τ.nr c))
 |a::b::l,p=>by have i2:=bNn (b::l) p.2;simp only[cB,m5,aG,x5];refine⟨?_,i2⟩;(cases a with|i k=>rfl|b=>rfl|row c=>simp only[cO,tR,AV.noRef];exact aC (τ.nr c)|own c=>simp only[cO,tR,tr,trN,AV.noRef];exact aC (τ.nr c))
theorem yW(p:PK)(x:p.T τ.toTS):(avO τ.toTS1 p x).noRef=true:=by
 (cases p with|i k=>rfl|b=>rfl|row c=>simp only[avO,AV.noRef];exact aC (τ.nr c)|st c=>simp only[avO,AV.noRef];exact bNn _ _|rb c=>simp only[avO,AV.noRef];exact aC (τ.nr c)|sb c=>simp only[avO,AV.noRef];exact τ.nr c x)
theorem bGt:∀(ps:List PK) (x:TupP τ.toTS ps),aG (tE τ.toTS1 ps x)=true
 |[],_=>rfl
 |[p],x=>by simp only[tE,aG,e9];exact yW p x
 |p::q::ps,x=>by simp only[tE,aG,x5];exact⟨yW p x.1,bGt (q::ps) x.2⟩
theorem bOa(s:RK)(x:s.T τ.toTS):(avR τ.toTS1 s x).noRef=true:=by
 (cases s with|one p=>exact yW p x|two p q=>simp only[avR,AV.noRef,aG,e9,x5];exact⟨yW p _,yW q _⟩|three p q s=>simp only[avR,AV.noRef,aG,e9,x5];exact⟨yW p _,yW q _,yW s _⟩|tup p q ps=>simp only[avR,AV.noRef];exact bGt _ x)
def TH.emp{τ:TS}:TH τ:=⟨[],1⟩
theorem aGo{n:Nat}:HtOk τ.toTS1 (TH.emp:TH τ.toTS) n []:=⟨λr=>rfl,(λr t h=>by cases h),λr _=>rfl,λr=>Nat.zero_lt_one⟩
theorem Gds.emp{vs:List (TV τ.toTS)}(h:Gds H n vs):Gds (TH.emp:TH τ.toTS) n vs:=Gds.ext (k9 n) (λr _=>Ex1.none) h
def bMe(τ:TS1):(s:RK)->s.T τ.toTS->Option (TV τ.toTS)
 | .one (.i k),z=>some (.v (.int k z))
 | .one .b,t=>some (.v (.bool t))
 | .one (.st c),x=>match aTm τ.toTS c with|true=>some (.agg (encS τ c x))|false=>none
 | .one (.sb c),x=>match aTm τ.toTS c with|true=>some (.agg (encS τ c x))|false=>none
 |_,_=>none
theorem aHr:∀(l:List Lf) (t:Tup τ.toTS l),(l.all λ| .row _=>false| .own _=>false|_=>true)=true->(cB τ.toTS l t).map (tR τ.toTS1)=trs τ.toTS1 (cB τ.toTS l t)/\(trs τ.toTS1 (cB τ.toTS l t)).all aEl=true
 |[],_,_=>⟨rfl,rfl⟩
 |[a],x,h=>by cases a<;>first|exact⟨rfl,rfl⟩|(simp at h;done)
 |a::b::l,p,h=>by rw[y4,x5]at h;obtain⟨i1,i2⟩:=aHr (b::l) p.2 h.2;have h1:=h.1;simp only[cB,m5,trs,y4,x5,i1];cases a<;>first|exact⟨rfl,rfl,i2⟩|(simp at h1;done)
theorem bJn{l:List Lf}(h:(l.all λ| .row _=>false| .own _=>false|_=>true)=true):l.all (plL τ.toTS)=true:=by rw[w5]at h ⊢;intro a ha;have:=h a ha;cases a<;>first|rfl|(cases this;done)
theorem bSg{s:RK}{x:s.T τ.toTS}{v:TV τ.toTS}(h:bMe τ.toTS1 s x=some v):tr τ.toTS1 v=avR τ.toTS1 s x/\(avR τ.toTS1 s x).isFlat=true/\Gd H n v:=by unfold bMe at h;split at h;{cases h;exact⟨by simp only[tr,avR,avO],rfl,by simp only[Gd,plainV]⟩};{cases h;exact⟨by simp only[tr,avR,avO],rfl,by simp only[Gd,plainV]⟩};{split at h;{rename_i hf;cases h;obtain⟨f1,f2⟩:=aHr _ (τ.prj _ _) hf;refine⟨by simp only[tr,avR,avO];unfold encS;rw[f1],?_,by simp only[Gd];exact oT _ _ (bJn hf)⟩;simp only[avR,avO,AV.isFlat];unfold encS;rw[f1];exact f2};{cases h}};{split at h;{rename_i hf;cases h;obtain⟨f1,f2⟩:=aHr _ (τ.prj _ _) hf;refine⟨by simp only[tr,avR,avO];rw[τ.avE],?_,by simp only[Gd];exact oT _ _ (bJn hf)⟩;simp only[avR,avO,AV.isFlat];rw[τ.avE];exact f2};{cases h}};{cases h}
theorem aXa:∀(ps:List PK) (x:TupP τ.toTS ps),ps.all (okP τ.toTS)=true->aN (tE τ.toTS1 ps x)=true/\aG (tE τ.toTS1 ps x)=true
 |[],_,_=>⟨rfl,rfl⟩
 |[p],x,h=>by simp only[y4,o4,e9]at h;simp only[tE,aN,aG,e9];exact nL p x h
 |p::q::ps,x,h=>by rw[y4,x5]at h;simp only[tE,aN,aG,x5];exact⟨⟨(nL p x.1 h.1).1,(aXa (q::ps) x.2 h.2).1⟩,(nL p x.1 h.1).2,(aXa (q::ps) x.2 h.2).2⟩
theorem bZo(s:RK)(x:s.T τ.toTS)(h:okR τ.toTS s=true):(avR τ.toTS1 s x).noBor=true/\(avR τ.toTS1 s x).noRef=true:=by
 (cases s with|one p=>exact nL p x h|two p q=>simp only[okR,x5]at h;simp only[avR,AV.noBor,AV.noRef,aN,aG,e9,x5];exact⟨⟨(nL p _ h.1).1,(nL q _ h.2).1⟩,(nL p _ h.1).2,(nL q _ h.2).2⟩|three p q s=>simp only[okR,x5]at h;simp only[avR,AV.noBor,AV.noRef,aN,aG,e9,x5];exact⟨⟨(nL p _ h.1.1).1,(nL q _ h.1.2).1,(nL s _ h.2).1⟩,(nL p _ h.1.1).2,(nL q _ h.1.2).2,(nL s _ h.2).2⟩|tup p q ps=>simp only[avR,AV.noBor,AV.noRef];exact aXa _ x h)
end
def rdF{τ:TS}(H:TH τ):(a:Lf)->TV τ->Option (a.T τ×List (Option Nat))
 | .i k,.v (.int k' z)=>gb (decide (k'=k)) (some (z,[]))
 | .b,.v (.bool t)=>some (t,[])
 | .row c,.ws r _ _=>match lkH H r with
  |some (.row c' xs)=>if h:c'=c then some (h▸xs,[some r])else none
  |_=>none
 | .row _,.v .nil=>some ([],[none])
 | .row _,.v .emp=>some ([],[none])
 |_,_=>none
def rdV{τ:TS}(H:TH τ):(l:List Lf)->List (TV τ)->Option (Tup τ l×List (Option Nat))
 |[],[]=>some ((),[])
 |[a],[v]=>rdF H a v
 |a::b::l,v::vs=>match rdF H a v with
  |some (x,rs)=>match rdV H (b::l) vs with
   |some (y,us)=>some ((x,y),rs++us)
   |none=>none
  |none=>none
 |_,_=>none
def rdP(τ:TS1)(H:TH τ.toTS):(p:PK)->TV τ.toTS->Option (p.T τ.toTS×List (Option Nat))
 | .i k,v=>rdF H (.i k) v
 | .b,v=>rdF H .b v
 | .row c,v=>rdF H (.row c) v
 | .st c,.agg vs=>match rdV H (τ.lf c) vs with
  |some (t,rs)=>some (τ.mkS c t,rs)
  |none=>none
 | .rb c,.bor c' xs=>if h:c'=c then some (h▸xs,[])else none
 | .rb _,.v .nil=>some ([],[])
 | .sb c,.agg vs=>match unL (τ.lf c) vs with
  |some t=>some (τ.mkS c t,[])
  |none=>none
 |_,_=>none
structure Sr (τ : TS2) (ρ : Nat → Option Nat) (n2 : Nat) (H2 H' : TH τ.toTS) : Prop where
 row:∀r t,lkH H2 r=some t->r<n2/\aG (trR τ.toTS1 t).cs=true/\((ρ r=none/\(trR τ.toTS1 t).cs=[])\/∃j t',ρ r=some j/\lkH H' j=some t'/\trR τ.toTS1 t'=trR τ.toTS1 t)
def cnH(τ:TS1)(H:TH τ.toTS):Heap:=H.l.map λx=>(x.1,x.2.2.map (trR τ))
section
variable {τ : TS2} {n n2 n' : Nat} {H H' : TH τ.toTS} {ρ : Nat → Option Nat} {Hp' : Heap}
theorem Sr.put{c:Nat}{xs:List (τ.T c)}(h:Sr τ ρ n2 H H')(hn:n<n2)(hx:(ρ n=none/\xs=[])\/∃j,ρ n=some j/\lkH H' j=some (.row c xs)):Sr τ ρ n2 (H.put n (some (.row c xs))) H':=⟨λr t hr=>by
 rw[aM]at hr;split at hr;{rename_i e;subst e;cases hr;exact⟨hn,by simp only[trR];exact aC (τ.nr c),hx.imp (λ⟨a,b⟩=>⟨a,by subst b;rfl⟩) λ⟨j,a,b⟩=>⟨j,_,a,b,rfl⟩⟩}
 · exact h.row r t hr⟩
theorem Sr.putC{e:TypeId}{vs vs':List (TV τ.toTS)}{ts ts':List Nat}{j:Nat}(h:Sr τ ρ n2 H H')(hn:n<n2)(hj:ρ n=some j)(hl:lkH H' j=some (.cells e vs' ts'))(hv:trs τ.toTS1 vs'=trs τ.toTS1 vs)(hr:aG (trs τ.toTS1 vs)=true):Sr τ ρ n2 (H.put n (some (.cells e vs ts))) H':=⟨λr t ht=>by
 rw[aM]at ht;split at ht;{rename_i e;subst e;cases ht;exact⟨hn,hr,.inr ⟨j,_,hj,hl,by simp only[trR,hv]⟩⟩}
 · exact h.row r t ht⟩
theorem aLs{a:Lf}{u:TV τ.toTS}{x:a.T τ.toTS}{rs:List (Option Nat)}(h:rdF H' a u=some (x,rs))(hg:Gd H' n' u)(hs:Sr τ ρ n2 H H')(hρ:∀k,k<rs.length->ρ (n+k)=rs.getD k none)(hn:n+rs.length<=n2):
 ∃w H1,gU [cO τ.toTS a x] H n=([w],H1,n+rs.length)/\Ren ρ n2 (tr τ.toTS1 w) (tr τ.toTS1 u)/\Sr τ ρ n2 H1 H':=by
 unfold rdF at h;split at h;{obtain⟨hb,h⟩:=aF h;cases h;have:=of_decide_eq_true hb;subst this;exact⟨_,H,rfl,by simp only[cO,tr];exact aGy,hs⟩};{cases h;exact⟨_,H,rfl,by simp only[cO,tr];exact aIc,hs⟩};{rename_i c r0 c0 k0;split at h;{rename_i c' ys hr;split at h;{rename_i e;subst e;cases h;simp only[Gd]at hg;obtain⟨e1,e2⟩:=hg.2.row hr;subst e1;simp only[qJQ]at hn hρ;have h0:=hρ 0 (by omega);simp only[qZU,qQW]at h0;exact⟨_,_,rfl,by simp only[tr];exact bCp (by omega) h0 e2.symm,hs.put (by omega) (.inr ⟨r0,h0,hr⟩)⟩};{cases h}};{cases h}};{rename_i c;cases h;simp only[qJQ]at hn hρ;have h0:=hρ 0 (by omega);simp only[qZU,qQW]at h0;exact⟨_,_,rfl,by simp only[tr];exact bAj (by omega) h0 rfl,hs.put (by omega) (.inl ⟨h0,rfl⟩)⟩};{rename_i c;cases h;simp only[qJQ]at hn hρ;have h0:=hρ 0 (by omega);simp only[qZU,qQW]at h0;exact⟨_,_,rfl,by simp only[tr];exact bNz (by omega) h0 rfl,hs.put (by omega) (.inl ⟨h0,rfl⟩)⟩};{cases h}
theorem bMs{v w:TV τ.toTS}{vs:List (TV τ.toTS)}{H1:TH τ.toTS}{n1:Nat}(h:gU [v] H n=([w],H1,n1)):gU (v::vs) H n=(w::(gU vs H1 n1).1,(gU vs H1 n1).2.1,(gU vs H1 n1).2.2):=by cases v<;>simp only[gU,Prod.mk.injEq,List.cons.injEq,and_true]at h<;>obtain⟨rfl,rfl,rfl⟩:=h<;>rfl
theorem bNm:∀(l:List Lf) (vs:List (TV τ.toTS)) (t:Tup τ.toTS l) (rs:List (Option Nat)) {H:TH τ.toTS} {n:Nat},rdV H' l vs=some (t,rs)->Gds H' n' vs->Sr τ ρ n2 H H'->(∀k,k<rs.length->ρ (n+k)=rs.getD k none)->n+rs.length<=n2->
 ∃ws H1,gU (cB τ.toTS l t) H n=(ws,H1,n+rs.length)/\Rens ρ n2 (trs τ.toTS1 ws) (trs τ.toTS1 vs)/\Sr τ ρ n2 H1 H'
 |[],[],t,rs,H,n,h,hg,hs,hρ,hn=>by simp only[rdV]at h;cases h;exact⟨[],H,rfl,iA,hs⟩
 |[],_::_,t,rs,H,n,h,hg,hs,hρ,hn=>by cases h
 |[a],[],t,rs,H,n,h,hg,hs,hρ,hn=>by cases h
 |[a],[v],t,rs,H,n,h,hg,hs,hρ,hn=>by simp only[rdV]at h;simp only[Gds]at hg;obtain⟨w,H1,e1,e2,e3⟩:=aLs h hg.1 hs hρ hn;exact⟨[w],H1,e1,by simp only[trs];exact aW e2 iA,e3⟩
 |[a],v::w::vs,t,rs,H,n,h,hg,hs,hρ,hn=>by cases h
 |a::b::l,[],t,rs,H,n,h,hg,hs,hρ,hn=>by cases h
 |a::b::l,v::vs,t,rs,H,n,h,hg,hs,hρ,hn=>by simp only[rdV]at h;split at h;{rename_i x xs hx;split at h;{rename_i y ys hy;cases h;unfold Gds at hg;rw[y5]at hn;obtain⟨w,H1,e1,e2,e3⟩:=aLs (n:=n) hx hg.1 hs (λk hk=>by rw[hρ k (by rw[y5];omega)];simp only[x6];rw[e7 hk]) (by omega);obtain⟨ws,H2,f1,f2,f3⟩:=bNm (b::l) vs y ys (n:=n+xs.length) hy hg.2 e3 (λk hk=>by rw[m4,hρ (xs.length+k) (by rw[y5];omega)];simp only[x6];rw[d9 (by omega)];congr 2;omega) (by omega);refine⟨w::ws,H2,?_,by simp only[trs];exact aW e2 f2,f3⟩;simp only[cB];rw[bMs e1,f1,y5,m4]};{cases h}};{cases h}
theorem bAx{p:PK}{u:TV τ.toTS}{x:p.T τ.toTS}{rs:List (Option Nat)}(h:rdP τ.toTS1 H' p u=some (x,rs))(hg:Gd H' n' u)(hs:Sr τ ρ n2 H H')(hρ:∀k,k<rs.length->ρ (n+k)=rs.getD k none)(hn:n+rs.length<=n2):
 ∃w H1,mM τ.toTS1 p x H n=(w,H1,n+rs.length)/\Ren ρ n2 (tr τ.toTS1 w) (tr τ.toTS1 u)/\Sr τ ρ n2 H1 H':=by
 cases p with
 |i k=>obtain⟨w,H1,e1,e2,e3⟩:=aLs (a:= .i k) (x:=x) h hg hs hρ hn;simp only[cO,gU,Prod.mk.injEq,List.cons.injEq,and_true]at e1;obtain⟨rfl,rfl,e4⟩:=e1;exact⟨_,_,by simp only[mM];rw[<-e4],e2,e3⟩
 |b=>obtain⟨w,H1,e1,e2,e3⟩:=aLs (a:= .b) (x:=x) h hg hs hρ hn;simp only[cO,gU,Prod.mk.injEq,List.cons.injEq,and_true]at e1;obtain⟨rfl,rfl,e4⟩:=e1;exact⟨_,_,by simp only[mM];rw[<-e4],e2,e3⟩
 |row c=>obtain⟨w,H1,e1,e2,e3⟩:=aLs (a:= .row c) (x:=x) h hg hs hρ hn;simp only[cO,gU,Prod.mk.injEq,List.cons.injEq,and_true]at e1;obtain⟨rfl,rfl,e4⟩:=e1;exact⟨_,_,by simp only[mM];rw[<-e4],e2,e3⟩
 |st c=>(cases u with|agg vs=>simp only[rdP]at h;split at h;{rename_i t us ht;cases h;obtain⟨ws,H1,e1,e2,e3⟩:=bNm _ _ _ _ ht (by simpa only[Gd]using hg) hs hρ hn;refine⟨.agg ws,H1,?_,by simp only[tr];exact oS e2,e3⟩;simp only[mM,encS,τ.mkP,e1]};{cases h}|v _=>cases h|ws _ _ _=>cases h|part _ _ _ _=>cases h|elt _ _ _ _=>cases h|bor _ _=>cases h|bel _ _ _ _=>cases h|tup _=>cases h|bl _ _ _=>cases h|x _=>cases h)
 |rb c=>
  cases u with
  |bor c' xs=>simp only[rdP]at h;split at h;{rename_i e;subst e;cases h;exact⟨.bor _ _,H,rfl,by simp only[tr];exact bS (aL (aC (τ.nr _))),hs⟩};{cases h}
  |v a=>cases a<;>first|(cases h;done)|(cases h;exact⟨.bor _ _,H,rfl,by simp only[tr];exact aIw,hs⟩)
  |ws _ _ _=>cases h
  |part _ _ _ _=>cases h
  |elt _ _ _ _=>cases h
  |agg _=>cases h
  |bel _ _ _ _=>cases h
  |tup _=>cases h
  |bl _ _ _=>cases h
  |x _=>cases h
 |sb c=>(cases u with|agg vs=>simp only[rdP]at h;split at h;{rename_i t ht;cases h;have e:=wJ _ _ _ ht;subst e;refine⟨.agg (encS τ.toTS1 c (τ.mkS c t)),H,rfl,?_,hs⟩;simp only[encS,τ.mkP,tr];have:=τ.nr c (τ.mkS c t);rw[τ.avE]at this;simp only[encS,τ.mkP]at this;exact oS (aL this)};{cases h}|v _=>cases h|ws _ _ _=>cases h|part _ _ _ _=>cases h|elt _ _ _ _=>cases h|bor _ _=>cases h|bel _ _ _ _=>cases h|tup _=>cases h|bl _ _ _=>cases h|x _=>cases h)
theorem dV:∀(r:Nat),(cnH τ.toTS1 H).get1 r=(lkH H r).map (trR τ.toTS1):=by
 intro r;obtain⟨l,q⟩:=H;simp only[cnH,lkH];induction l with
 |nil=>rfl
 |cons x l ih=>obtain⟨k,s,t⟩:=x;simp only[m5,Heap.get1,lF,ih];by_cases e:k=r;{subst e;simp};{rw[if_neg e];(cases hb:f9 k r with|true=>exact absurd (w6 hb) e|false=>rfl)}
end
mutual
def fr1{τ:TS}(R c:Nat)(xs:List (τ.T c)):TV τ->TV τ
 | .ws r c0 k=>match f9 r R with|true=> .bor c xs|false=> .ws r c0 k
 | .part r c0 i k=>match f9 r R with|true=> .bor c (List.take k (List.drop i xs))|false=> .part r c0 i k
 | .agg vs=> .agg (aAk R c xs vs)
 | .tup vs=> .tup (aAk R c xs vs)
 | .v x=> .v x
 | .elt r c0 i o=> .elt r c0 i o
 | .bor c0 ys=> .bor c0 ys
 | .bel c0 ys i o=> .bel c0 ys i o
 | .bl e m vs=> .bl e m vs
 | .x (.nws r c0 i o c2 k)=>match f9 r R with|true=> .v .unk|false=> .x (.nws r c0 i o c2 k)
 | .x a=> .x a
def aAk{τ:TS}(R c:Nat)(xs:List (τ.T c)):List (TV τ)->List (TV τ)
 |[]=>[]
 |v::vs=>fr1 R c xs v::aAk R c xs vs
end
def frz{τ:TS}:TH τ->List (TV τ)->List Nat->TH τ×List (TV τ)
 |H,vs,[]=>(H,vs)
 |H,vs,R::rs=>match lkH H R with
  |some (.row c xs)=>match τ.el c with
   |true=>frz (H.put R none) (aAk R (τ.un c) (cast (congrArg List (τ.tu c)) xs) vs) rs
   |false=>frz H vs rs
  |_=>frz H vs rs
def nR:List Nat->List Nat->List Nat
 |acc,[]=>acc
 |acc,r::rs=>match acc.any (f9 r)with
  |true=>nR acc rs
  |false=>nR (r::acc) rs
def nU{τ:TS}:TV τ->Bool
 | .v .unk=>false
 |_=>true
section
variable {τ : TS2} {R : Type} {r : R} {P : Program} {H H' : TH τ.toTS} {n n' : Nat} {Hp : Heap} {L : Nat} {E : TE τ.toTS} {env : List AV}
theorem bWn{c:Nat}(he:τ.el c=true):τ.sz (τ.un c)=τ.sz c:=by
 letI:=τ.inh c
 have h:=congrArg x9 (τ.thw c (@default _ (τ.inh c)) he);rw[t8,bJ,bJ]at h;exact h.symm
mutual
theorem bLc{Q c d:Nat}{ys:List (τ.T c)}{zs:List (τ.T d)}(hz:τ.sz d=τ.sz c)(hn:zs.length=ys.length)(hp:τ.pl d=true)(hr:lkH H Q=some (.row c ys))(he:Ext H n (H.put Q none)):∀{v:TV τ.toTS},Gd H n v->Fr Q (fl (τ.av d) zs) (tr τ.toTS1 v) (tr τ.toTS1 (fr1 Q d zs v))/\Gd (H.put Q none) n (fr1 Q d zs v)
 | .ws r c0 k,h=>by
  simp only[fr1];split
  · rename_i hb
    have:=w6 hb;subst this;simp only[Gd]at h;obtain⟨e1,e2⟩:=h.2.row hr;subst e1
    letI:=τ.inh d
    exact⟨by simp only[tr];exact cAx (λx=>by rw[bJ,hz]) (by rw[<-e2];exact hn.symm),by simp only[Gd];exact hp⟩
  {exact⟨.same _,Gd.ext (k9 n) he h⟩}
 | .part r c0 i k,h=>by
  simp only[fr1];split
  · rename_i hb
    have:=w6 hb;subst this;simp only[Gd]at h;obtain⟨_,m,hm,hrl⟩:=h;obtain⟨e1,e2⟩:=hrl.row hr;subst e1
    letI:=τ.inh d
    exact⟨by simp only[tr];exact bQn (λx=>by rw[bJ,hz]) rfl (by omega) rfl (by rw[List.length_take,List.length_drop];omega),by simp only[Gd];exact hp⟩
  {exact⟨.same _,Gd.ext (k9 n) he h⟩}
 | .agg vs,h=>by simp only[Gd]at h;obtain⟨a,b⟩:=aTs hz hn hp hr he h;exact⟨by simp only[fr1,tr];exact .agg _ _ a,by simp only[fr1,Gd];exact b⟩
 | .tup vs,h=>by simp only[Gd]at h;obtain⟨a,b⟩:=aTs hz hn hp hr he h;exact⟨by simp only[fr1,tr];exact .tup _ _ a,by simp only[fr1,Gd];exact b⟩
 | .v x,h=>⟨.same _,Gd.ext (k9 n) he h⟩
 | .elt r c0 i o,h=>⟨.same _,Gd.ext (k9 n) he h⟩
 | .bor c0 ys,h=>⟨.same _,Gd.ext (k9 n) he h⟩
 | .bel c0 ys i o,h=>⟨.same _,Gd.ext (k9 n) he h⟩
 | .bl e m vs,h=>⟨.same _,Gd.ext (k9 n) he h⟩
 | .x (.nws r c0 i o c2 k),h=>by simp only[fr1];split;{exact⟨by simp only[tr];exact .unk _,by simp only[Gd,plainV]⟩};{exact⟨.same _,Gd.ext (k9 n) he h⟩}
 | .x (.ow _ _),h=>⟨.same _,Gd.ext (k9 n) he h⟩
 | .x (.nelt _ _ _ _ _ _ _),h=>⟨.same _,Gd.ext (k9 n) he h⟩
 | .x (.wc _ _ _),h=>⟨.same _,Gd.ext (k9 n) he h⟩
theorem aTs{Q c d:Nat}{ys:List (τ.T c)}{zs:List (τ.T d)}(hz:τ.sz d=τ.sz c)(hn:zs.length=ys.length)(hp:τ.pl d=true)(hr:lkH H Q=some (.row c ys))(he:Ext H n (H.put Q none)):∀{vs:List (TV τ.toTS)},Gds H n vs->Frs Q (fl (τ.av d) zs) (trs τ.toTS1 vs) (trs τ.toTS1 (aAk Q d zs vs))/\Gds (H.put Q none) n (aAk Q d zs vs)
 |[],_=>⟨by simp only[aAk,trs];exact .nil,by simp only[aAk,Gds]⟩
 |v::vs,h=>by simp only[Gds]at h;obtain⟨a,b⟩:=bLc hz hn hp hr he h.1;obtain⟨c,d⟩:=aTs hz hn hp hr he h.2;exact⟨by simp only[aAk,trs];exact .cons _ _ _ _ a c,by simp only[aAk,Gds];exact⟨b,d⟩⟩
end
theorem bXr{Q c:Nat}{ys:List (τ.T c)}(hl:τ.el c=true)(hr:lkH H Q=some (.row c ys))(he:Ext H n (H.put Q none)){vs:List (TV τ.toTS)}(h:Gds H n vs):Frs Q (fl (τ.av (τ.un c)) (cast (congrArg List (τ.tu c)) ys)) (trs τ.toTS1 vs) (trs τ.toTS1 (aAk Q (τ.un c) (cast (congrArg List (τ.tu c)) ys) vs))/\Gds (H.put Q none) n (aAk Q (τ.un c) (cast (congrArg List (τ.tu c)) ys) vs):=aTs (bWn hl) (aFq rfl ys).2 (τ.plu c hl) hr he h
theorem aTt:∀{rs:List Nat} {H:TH τ.toTS} {vs:List (TV τ.toTS)} {Hp:Heap} {H2:TH τ.toTS} {vs2:List (TV τ.toTS)},frz H vs rs=(H2,vs2)->HtOk τ.toTS1 H n Hp->Gds H n vs->
 ∃Hp2,Ent n (trs τ.toTS1 vs2) Hp2 n (trs τ.toTS1 vs) Hp n/\HtOk τ.toTS1 H2 n Hp2/\Gds H2 n vs2/\Ext H n H2/\FxH H H2/\∀i,i∉rs->Hp2.get1 i=Hp.get1 i
 |[],H,vs,Hp,H2,vs2,h,hh,hg=>by simp only[frz,Prod.mk.injEq]at h;obtain⟨rfl,rfl⟩:=h;exact⟨Hp,Ent.refl,hh,hg,Ext.refl,FxH.refl,λ_ _=>rfl⟩
 |Q::rs,H,vs,Hp,H2,vs2,h,hh,hg=>by
  have skip:frz H vs rs=(H2,vs2)->∃Hp2,Ent n (trs τ.toTS1 vs2) Hp2 n (trs τ.toTS1 vs) Hp n/\HtOk τ.toTS1 H2 n Hp2/\Gds H2 n vs2/\Ext H n H2/\FxH H H2/\∀i,i∉Q::rs->Hp2.get1 i=Hp.get1 i:=λh=>by obtain⟨Hp2,e1,e2,e3,e4,e5,e6⟩:=aTt h hh hg;exact⟨Hp2,e1,e2,e3,e4,e5,λi hi=>e6 i (λhc=>hi (m8 _ hc))⟩
  simp only[frz]at h;split at h
  · rename_i c xs hr
    split at h
    · rename_i hl
      have hQ:Q<n:=hh.lt hr;obtain⟨k1,k2⟩:=hh.kill hQ;obtain⟨f1,f2⟩:=bXr hl hr k2 hg;obtain⟨Hp2,e1,e2,e3,e4,e5,e6⟩:=aTt h k1 f2;have hR:Hp.get1 Q=some ⟨τ.tid c,fl (τ.av c) xs⟩:=(by rw[hh.heap,hr];rfl);have ec:=(aFq rfl xs:fl (τ.av (τ.un c)) (cast (congrArg List (τ.tu c)) xs)=fl (λx=>τ.av (τ.un c) (cast (τ.tu c) x)) xs/\_).1;rw[ec]at f1
      letI:=τ.inh c
      refine⟨Hp2,e1.trans (Ent.freezeOK hR (λx=>τ.thw c x hl) (λx=>τ.shl c x hl) f1),e2,e3,k2.trans (k9 n) e4,kill_fx.trans e5,λi hi=>?_⟩;rw[e6 i (λhc=>hi (m8 _ hc)),cQ,if_neg (λe=>hi (by rw[e];exact List.mem_cons_self))]
    {exact skip h}
  {exact skip h}
theorem VsOk.self:∀vs:List (TV τ.toTS),VsOk τ.toTS1 vs (trs τ.toTS1 vs)
 |[]=>rfl
 |v::vs=>by simp only[VsOk,trs];exact⟨_,_,rfl,.inr rfl,VsOk.self vs⟩
theorem VsOk.all:∀{vs:List (TV τ.toTS)} {as:List AV},VsOk τ.toTS1 vs as->vs.all nU=true->as=trs τ.toTS1 vs
 |[],as,h,_=>by simp only[VsOk]at h;subst h;rfl
 |v::vs,as,h,hu=>by
  simp only[VsOk]at h;obtain⟨a,as',rfl,h1,h2⟩:=h;simp only[y4,x5]at hu;have:v≠ .v .unk:=λe=>by rw[e]at hu;cases hu.1
  simp only[trs];rw[h1.resolve_left this,VsOk.all h2 hu.2]
end
inductive QK where
 |v (p:PK)
 |pt (t:Nat)
 |ow (c:Nat)
 |os (t:Nat)
abbrev QK.T(τ:TS):QK->Type
 | .v p=>p.T τ
 | .pt t=>τ.T t
 | .ow c=>List (τ.T c)
 | .os t=>τ.T t
abbrev CurQ(τ:TS):List QK->Type->Type
 |[],R=>R
 |q::qs,R=>q.T τ->CurQ τ qs R
abbrev KT(τ:TS):List QK->Type->Type
 |[],R=>R
 | .pt t::qs,R=>τ.T t×KT τ qs R
 | .v _::qs,R=>KT τ qs R
 | .ow _::qs,R=>KT τ qs R
 | .os _::qs,R=>KT τ qs R
def aTq:List Lf->Nat
 |[]=>0
 | .row _::l=>aTq l+1
 |_::l=>aTq l
def kpR(τ:TS1){R:Type}:(qs:List QK)->Nat->KT τ.toTS qs R->List (Nat×Nat×List (TV τ.toTS))
 |[],_,_=>[]
 | .pt t::qs,j,y=>(j,t,encS τ t y.1)::kpR τ qs (j+1) y.2
 | .v _::qs,j,y=>kpR τ qs j y
 | .ow _::qs,j,y=>kpR τ qs (j+1) y
 | .os t::qs,j,y=>kpR τ qs (j+aTq (τ.lf t)) y
def kpX{τ:TS}{R:Type}:(qs:List QK)->KT τ qs R->R
 |[],y=>y
 | .pt _::qs,y=>kpX qs y.2
 | .v _::qs,y=>kpX qs y
 | .ow _::qs,y=>kpX qs y
 | .os _::qs,y=>kpX qs y
def jD(τ:TS1):(p:PK)->p.T τ.toTS->TV τ.toTS
 | .i k,z=> .v (.int k z)
 | .b,t=> .v (.bool t)
 | .row c,xs=> .bor c xs
 | .st c,x=> .agg (encS τ c x)
 | .rb c,xs=> .bor c xs
 | .sb c,x=> .agg (encS τ c x)
def bQ(τ:TS1):(q:QK)->q.T τ.toTS->TH τ.toTS->Nat->TV τ.toTS×TH τ.toTS×Nat
 | .v p,x,H,n=>(jD τ p x,H,n)
 | .pt t,x,H,n=>(.v (.ptr n [] 0),H.put n (some (.cells t (encS τ t x) ((encS τ t x).map λ_=>H.q))),n+1)
 | .ow c,x,H,n=>mM τ (.row c) x H n
 | .os t,x,H,n=>mM τ (.st t) x H n
def kpH{τ:TS}(l:List (Nat×Nat×List (TV τ))):TH τ:=⟨l.map λq=>(q.1,1,some (.cells q.2.1 q.2.2 (q.2.2.map λ_=>1))),2⟩
def SjE(τ:TS1)(P:Program)(f:FuncId)(s:RK)(as:List (TV τ.toTS))(H0:TH τ.toTS)(m:Nat)(kp:List (Nat×Nat×List (TV τ.toTS)))(x:s.T τ.toTS):Prop:=Inl P f (trs τ as) (cnH τ H0) m (tr τ (iZ τ s x (kpH kp) m).1) (cnH τ (iZ τ s x (kpH kp) m).2.1) (iZ τ s x (kpH kp) m).2.2
def SjP(τ:TS1)(P:Program)(f:FuncId)(s:RK)(q0:List QK):(qs:List QK)->List (TV τ.toTS)->TH τ.toTS->Nat->CurQ τ.toTS qs (Option (KT τ.toTS q0 (s.T τ.toTS)))->Prop
 |[],as,H,m,F=>∀y,F=some y->SjE τ P f s as H m (kpR τ q0 0 y) (kpX q0 y)
 |q::qs,as,H,m,F=>∀x:q.T τ.toTS,SjP τ P f s q0 qs (as++[(bQ τ q x H m).1]) (bQ τ q x H m).2.1 (bQ τ q x H m).2.2 (F x)
def exP(τ:TS1):(p:PK)->TV τ.toTS->Option (p.T τ.toTS)
 | .i k,.v (.int k' z)=>gb (decide (k'=k)) (some z)
 | .b,.v (.bool t)=>some t
 | .row c,.bor c' xs=>if h:c'=c then some (h▸xs)else none
 | .row _,.v .nil=>some []
 | .rb c,.bor c' xs=>if h:c'=c then some (h▸xs)else none
 | .rb _,.v .nil=>some []
 | .st c,.agg vs=>match unL (τ.lf c) vs with|some t=>some (τ.mkS c t)|none=>none
 | .sb c,.agg vs=>match unL (τ.lf c) vs with|some t=>some (τ.mkS c t)|none=>none
 |_,_=>none
def bAe:List (Option Nat)->Option (List Nat)
 |[]=>some []
 |some r::l=>match bAe l with|some u=>some (r::u)|none=>none
 |none::_=>none
def rdA(τ:TS1)(H:TH τ.toTS):(q:QK)->TV τ.toTS->Option (q.T τ.toTS×List Nat)
 | .v p,v=>match exP τ p v with|some x=>some (x,[])|none=>none
 | .pt t,.v (.ptr r [] 0)=>match lkH H r with
  |some (.cells e vs _)=>gb (f9 e t) (match unL (τ.lf t) vs with|some u=>some (τ.mkS t u,[r])|none=>none)
  |_=>none
 | .ow c,v=>match rdP τ H (.row c) v with
  |some (x,rs)=>match bAe rs with|some l=>some (x,l)|none=>none
  |none=>none
 | .os t,v=>match rdP τ H (.st t) v with
  |some (x,rs)=>match bAe rs with|some l=>some (x,l)|none=>none
  |none=>none
 |_,_=>none
def bDu(τ:TS1)(H:TH τ.toTS){X:Type}:(qs:List QK)->CurQ τ.toTS qs X->List (TV τ.toTS)->Option (X×List Nat)
 |[],F,[]=>some (F,[])
 |q::qs,F,v::vs=>match rdA τ H q v with
  |some (x,rs)=>match bDu τ H qs (F x) vs with
   |some (y,us)=>some (y,rs++us)
   |none=>none
  |none=>none
 |_,_,_=>none
def rsQ{τ:TS}:List QK->List (TV τ)->List Nat
 | .v _::qs,v::vs=>bC v++rsQ qs vs
 |_::qs,_::vs=>rsQ qs vs
 |_,_=>[]
def nY{τ:TS}(H:TH τ):List Nat->TH τ
 |[]=>H
 |r::rs=>nY (H.put r none) rs
def bBi{τ:TS}(pl:List Nat):List (Nat×Nat×List (TV τ))->TH τ->TH τ
 |[],H=>H
 |(j,e,vs)::l,H=>bBi pl l (H.put (pl.getD j 0) (some (.cells e vs (vs.map λ_=>H.q))))
def xF(τ:TS1)(pl:List Nat):List (Nat×Nat×List (TV τ.toTS))->Heap->Heap
 |[],Hp=>Hp
 |(j,e,vs)::l,Hp=>xF τ pl l ((pl.getD j 0,some ⟨e,trs τ vs⟩)::Hp)
def cCz(pl:List Nat)(j:Nat):Bool:=match pl.idxOf? (pl.getD j 0)with
 |some i=>f9 i j
 |none=>false
def bLb(M l:List Nat):Bool:=l.all λr=>M.any (f9 r)
def wfQ(τ:TS):QK->Bool
 | .v p=>wfA τ p
 | .pt t=>τ.pl t
 | .ow _=>true
 | .os t=>(τ.lf t).all nOw
structure Sw (τ : TS) where
 qs:List QK
 r:RK
 F:CurQ τ qs (Option (KT τ qs (r.T τ)))
def bLs(τ:TS1){R:Type}(H:TH τ.toTS)(n:Nat)(tl:List Nat)(s:Sw τ.toTS)(vs:List (TV τ.toTS))(K:TV τ.toTS->TH τ.toTS->Nat->Option R):Option R:=
 match frz H vs (nR [] (rsQ s.qs vs))with
 |(H2,vs2)=>match bDu τ H2 s.qs s.F vs2 with
  |some (Fx,pl)=>gb (wfR τ.toTS s.r&&s.qs.all (wfQ τ.toTS)&&vs.all nU&&qZH pl.length n&&dH (pl.map some)&&below pl n&&bLb tl pl&&bLb tl (nR [] (rsQ s.qs vs)))
   (x4 Fx λy=>gb ((kpR τ s.qs 0 y).all (λq=>cCz pl q.1)&&dH ((kpR τ s.qs 0 y).map λq=>some q.1)) (match iZ τ s.r (kpX s.qs y) (bBi pl (kpR τ s.qs 0 y) (nY H2 pl)) n with|(v,H',n')=>K v H' n'))
  |none=>none
section
variable {τ : TS2} {R : Type} {r : R} {P : Program} {H H' : TH τ.toTS} {n n' m : Nat} {Hp : Heap} {ρ : Nat → Option Nat}
theorem bGu(p:PK)(x:p.T τ.toTS):tr τ.toTS1 (jD τ.toTS1 p x)=avP τ.toTS1 p x:=by
 (cases p with|i k=>simp only[jD,avP,tr]|b=>simp only[jD,avP,tr]|row c=>simp only[jD,avP,tr]|st c=>simp only[jD,avP,tr];rw[τ.avE]|rb c=>simp only[jD,avP,tr]|sb c=>simp only[jD,avP,tr];rw[τ.avE])
theorem bIb(p:PK)(x:p.T τ.toTS)(hw:wfA τ.toTS p=true):Gd H n (jD τ.toTS1 p x):=by
 (cases p with|i k=>simp only[jD,Gd,plainV]|b=>simp only[jD,Gd,plainV]|row c=>simp only[jD,Gd];exact hw|st c=>simp only[jD,Gd];exact oT _ _ (τ.plf c hw)|rb c=>simp only[jD,Gd];exact hw|sb c=>simp only[jD,Gd];exact oT _ _ (τ.plf c hw))
theorem aFy(c:Nat)(x:τ.T c):aG (trs τ.toTS1 (encS τ.toTS1 c x))=true:=by rw[<-τ.avE];exact τ.nr c x
theorem aUz{c:Nat}{vs:List (TV τ.toTS)}{t:Tup τ.toTS (τ.lf c)}(h:unL (τ.lf c) vs=some t):encS τ.toTS1 c (τ.mkS c t)=vs:=by unfold encS;rw[τ.mkP];exact wJ _ _ _ h
theorem bNj{p:PK}{v:TV τ.toTS}{x:p.T τ.toTS}(h:exP τ.toTS1 p v=some x):Ren ρ m (tr τ.toTS1 (jD τ.toTS1 p x)) (tr τ.toTS1 v):=by unfold exP at h;split at h;{obtain⟨hb,h⟩:=aF h;cases h;have:=of_decide_eq_true hb;subst this;simp only[jD,tr];exact aGy};{cases h;simp only[jD,tr];exact aIc};{split at h;{rename_i e;subst e;cases h;simp only[jD,tr];exact bS (aL (aC (τ.nr _)))};{cases h}};{cases h;simp only[jD,tr];exact aIw};{split at h;{rename_i e;subst e;cases h;simp only[jD,tr];exact bS (aL (aC (τ.nr _)))};{cases h}};{cases h;simp only[jD,tr];exact aIw};{split at h;{rename_i t ht;cases h;have e:=aUz ht;simp only[jD,tr,e];rw[<-e];exact oS (aL (aFy _ _))};{cases h}};{split at h;{rename_i t ht;cases h;have e:=aUz ht;simp only[jD,tr,e];rw[<-e];exact oS (aL (aFy _ _))};{cases h}};{cases h}
theorem aWv:∀{rs:List (Option Nat)} {l:List Nat},bAe rs=some l->rs=l.map some
 |[],l,h=>by cases h;rfl
 |some r::rs,l,h=>by simp only[bAe]at h;split at h;{rename_i u hu;cases h;rw[aWv hu];rfl};{cases h}
 |none::rs,l,h=>by cases h
theorem getD_some{l:List Nat}{k:Nat}(h:k<l.length):(l.map some).getD k none=l[k]? :=by rw[x6,qXX,y9 h];rfl
theorem cCr{q:QK}{v:TV τ.toTS}{x:q.T τ.toTS}{l:List Nat}(h:rdA τ.toTS1 H' q v=some (x,l))(hg:Gd H' n' v)(hs:Sr τ ρ m H H')(hρ:∀k,k<l.length->ρ (n+k)=l[k]?)(hn:n+l.length<=m):
 ∃w H1,bQ τ.toTS1 q x H n=(w,H1,n+l.length)/\Ren ρ m (tr τ.toTS1 w) (tr τ.toTS1 v)/\Sr τ ρ m H1 H':=by
 unfold rdA at h;split at h;{split at h;{rename_i y hy;cases h;exact⟨_,H,rfl,bNj hy,hs⟩};{cases h}};{rename_i t r0;split at h;{rename_i e vs ts hr;obtain⟨hb,h⟩:=aF h;have:=w6 hb;subst this;split at h;{rename_i u hu;cases h;simp only[qJQ]at hn hρ;have h0:=hρ 0 (by omega);simp only[qZU,List.getElem?_cons_zero]at h0;refine⟨_,_,rfl,by simp only[tr];exact aNe (by omega) h0,hs.putC (by omega) h0 hr ?_ (aFy _ _)⟩;rw[aUz hu]};{cases h}};{cases h}};{rename_i c;split at h;{rename_i y rs hy;split at h;{rename_i u hu;cases h;have e:=aWv hu;subst e;rw[<-t8 (f:=some) (as:=l)]at hn ⊢;obtain⟨w,H1,e1,e2,e3⟩:=bAx (n:=n) hy hg hs (λk hk=>by rw[t8]at hk;rw[hρ k hk,getD_some hk]) hn;exact⟨w,H1,e1,e2,e3⟩};{cases h}};{cases h}};{rename_i c;split at h;{rename_i y rs hy;split at h;{rename_i u hu;cases h;have e:=aWv hu;subst e;rw[<-t8 (f:=some) (as:=l)]at hn ⊢;obtain⟨w,H1,e1,e2,e3⟩:=bAx (n:=n) hy hg hs (λk hk=>by rw[t8]at hk;rw[hρ k hk,getD_some hk]) hn;exact⟨w,H1,e1,e2,e3⟩};{cases h}};{cases h}};{cases h}
theorem bBc{xs ys us ws:List AV}(h:Rens ρ m xs ys)(k:Rens ρ m us ws):Rens ρ m (xs++us) (ys++ws):=by
 induction xs generalizing ys with
 |nil=>simp only[Rens]at h;subst h;exact k
 |cons x xs ih=>simp only[Rens]at h;obtain⟨y,us',rfl,h1,h2⟩:=h;exact aW h1 (ih h2)
theorem bHw{f:FuncId}{s:RK}{q0:List QK}:∀{qs:List QK} {F:CurQ τ.toTS qs (Option (KT τ.toTS q0 (s.T τ.toTS)))} {vs us as:List (TV τ.toTS)} {H:TH τ.toTS} {n:Nat} {Fx:Option (KT τ.toTS q0 (s.T τ.toTS))} {pl:List Nat},bDu τ.toTS1 H' qs F vs=some (Fx,pl)->SjP τ.toTS1 P f s q0 qs as H n F->Gds H' n' vs->Sr τ ρ m H H'->Rens ρ m (trs τ.toTS1 as) (trs τ.toTS1 us)->(∀k,k<pl.length->ρ (n+k)=pl[k]?)->n+pl.length<=m->
 ∃as' H1,SjP τ.toTS1 P f s q0 [] as' H1 (n+pl.length) Fx/\Sr τ ρ m H1 H'/\Rens ρ m (trs τ.toTS1 as') (trs τ.toTS1 (us++vs))
 |[],F,[],us,as,H,n,Fx,pl,h,hj,hg,hs,hr,hρ,hn=>by simp only[bDu,w7.injEq,Prod.mk.injEq]at h;obtain⟨rfl,rfl⟩:=h;exact⟨as,H,hj,hs,by simpa using hr⟩
 |[],F,v::vs,_,_,_,_,_,_,h,_,_,_,_,_,_=>by cases h
 |q::qs,F,[],_,_,_,_,_,_,h,_,_,_,_,_,_=>by cases h
 |q::qs,F,v::vs,us,as,H,n,Fx,pl,h,hj,hg,hs,hr,hρ,hn=>by
  simp only[bDu]at h;split at h
  · rename_i x rs hx
    split at h
    · rename_i y ks hy
      cases h;simp only[Gds]at hg;rw[y5]at hn;obtain⟨w,H1,e1,e2,e3⟩:=cCr (n:=n) hx hg.1 hs (λk hk=>by rw[hρ k (by rw[y5];omega),e7 hk]) (by omega);have hj1:=hj x;rw[e1]at hj1
      obtain⟨as',H2,f1,f2,f3⟩:=bHw (us:=us++[v]) (n:=n+rs.length) hy hj1 hg.2 e3 (by
       rw[xQ,xQ];exact bBc hr (by simp only[trs];exact aW e2 iA)) (λk hk=>by
       rw[m4,hρ (rs.length+k) (by rw[y5];omega),d9 (by omega)];congr 1;omega) (by omega)
      refine⟨as',H2,?_,f2,by simpa using f3⟩;rw[y5,<-m4];exact f1
    {cases h}
  {cases h}
end
section
variable {τ : TS2} {P : Program} {H H' G G' H1 G1 H2 G2 : TH τ.toTS} {n n' m c c1 c2 : Nat} {Hp : Heap}
structure Twi (τ : TS2) (H : TH τ.toTS) (n : Nat) (H' : TH τ.toTS) (G : TH τ.toTS) (m : Nat) (G' : TH τ.toTS) (c : Nat) : Prop where
 row:∀i,i<c->∃cc xs,lkH H' (n+i)=some (.row cc xs)/\lkH G' (m+i)=some (.row cc xs)
 oh:∀r,(r<n\/n+c<=r)->lkH H' r=lkH H r
 og:∀r,(r<m\/m+c<=r)->lkH G' r=lkH G r
theorem Twi.refl:Twi τ H n H G m G 0:=⟨λi h=>absurd h (Nat.not_lt_zero i),λ_ _=>rfl,λ_ _=>rfl⟩
theorem Twi.trans(h:Twi τ H n H1 G m G1 c1)(k:Twi τ H1 (n+c1) H2 G1 (m+c1) G2 c2):Twi τ H n H2 G m G2 (c1+c2):=by refine⟨λi hi=>?_,λr hr=>?_,λr hr=>?_⟩;{by_cases e:i<c1;{obtain⟨cc,xs,a,b⟩:=h.row i e;exact⟨cc,xs,by rw[k.oh _ (.inl (by omega))];exact a,by rw[k.og _ (.inl (by omega))];exact b⟩};{obtain⟨cc,xs,a,b⟩:=k.row (i-c1) (by omega);exact⟨cc,xs,by rw[show n+i=n+c1+(i-c1) by omega];exact a,by rw[show m+i=m+c1+(i-c1) by omega];exact b⟩}};{rw[k.oh r (by omega),h.oh r (by omega)]};{rw[k.og r (by omega),h.og r (by omega)]}
theorem Twi.one{cc:Nat}{xs:List (τ.T cc)}:Twi τ H n (H.put n (some (.row cc xs))) G m (G.put m (some (.row cc xs))) 1:=by refine⟨λi hi=>?_,λr hr=>?_,λr hr=>?_⟩;{have:i=0:=(by omega);subst this;exact⟨cc,xs,by rw[aM];exact if_pos rfl,by rw[aM];exact if_pos rfl⟩};{rw[aM,if_neg (by omega)]};{rw[aM,if_neg (by omega)]}
def Shf(n m c:Nat)(ρ:Nat->Option Nat)(N:Nat):Prop:=(∀i,i<c->ρ (n+i)=some (m+i))/\n+c<=N
theorem Shf.l{ρ:Nat->Option Nat}{N:Nat}(h:Shf n m (c1+c2) ρ N):Shf n m c1 ρ N:=⟨λi hi=>h.1 i (by omega),by have:=h.2;omega⟩
theorem Shf.rt{ρ:Nat->Option Nat}{N:Nat}(h:Shf n m (c1+c2) ρ N):Shf (n+c1) (m+c1) c2 ρ N:=⟨λi hi=>by rw[m4,m4];exact h.1 (c1+i) (by omega),by have:=h.2;omega⟩
theorem aKu:∀{vs:List (TV τ.toTS)} (hv:∀v∈vs,kI v=true) (H:TH τ.toTS) (n:Nat) (G:TH τ.toTS) (m:Nat),∃ws us H' G' c,gU vs H n=(ws,H',n+c)/\gU vs G m=(us,G',m+c)/\Twi τ H n H' G m G' c/\∀ρ N,Shf n m c ρ N->Rens ρ N (trs τ.toTS1 ws) (trs τ.toTS1 us)
 |[],_,H,n,G,m=>⟨[],[],H,G,0,rfl,rfl,Twi.refl,λ_ _ _=>iA⟩
 |v::vs,hv,H,n,G,m=>by
  have hv0:=hv v (by simp);have hvs:∀v∈vs,kI v=true:=λx hx=>hv x (by simp[hx]);cases v with
  |bor cc xs=>obtain⟨ws,us,H',G',c,e1,e2,e3,e4⟩:=aKu hvs (H.put n (some (.row cc xs))) (n+1) (G.put m (some (.row cc xs))) (m+1);refine⟨.ws n cc xs.length::ws,.ws m cc xs.length::us,H',G',1+c,by simp only[gU,e1,m4],by simp only[gU,e2,m4],Twi.one.trans e3,λρ N h=>?_⟩;simp only[trs,tr];refine aW (aGx ?_ ?_) (e4 ρ N h.rt);{have:=h.2;omega};{have:=h.1 0 (by omega);simpa using this}
  |v a=>obtain⟨ws,us,H',G',c,e1,e2,e3,e4⟩:=aKu hvs H n G m;refine⟨.v a::ws,.v a::us,H',G',c,by simp only[gU,e1],by simp only[gU,e2],e3,λρ N h=>?_⟩;simp only[trs,tr];refine aW ?_ (e4 ρ N h);cases a<;>simp only[kI]at hv0<;>first|(cases hv0;done)|exact aGy|exact aIc
  |ws _ _ _=>simp only[kI]at hv0;cases hv0
  |part _ _ _ _=>simp only[kI]at hv0;cases hv0
  |elt _ _ _ _=>simp only[kI]at hv0;cases hv0
  |bel _ _ _ _=>simp only[kI]at hv0;cases hv0
  |agg _=>simp only[kI]at hv0;cases hv0
  |tup _=>simp only[kI]at hv0;cases hv0
  |bl _ _ _=>simp only[kI]at hv0;cases hv0
  |x _=>simp only[kI]at hv0;cases hv0
theorem rP(p:PK)(x:p.T τ.toTS)(hw:wfP τ.toTS p=true)(H:TH τ.toTS)(n:Nat)(G:TH τ.toTS)(m:Nat):∃w u H' G' c,mM τ.toTS1 p x H n=(w,H',n+c)/\mM τ.toTS1 p x G m=(u,G',m+c)/\Twi τ H n H' G m G' c/\∀ρ N,Shf n m c ρ N->Ren ρ N (tr τ.toTS1 w) (tr τ.toTS1 u):=by
 cases p with
 |i k=>exact⟨_,_,H,G,0,rfl,rfl,Twi.refl,λρ N _=>by simp only[tr];exact aGy⟩
 |b=>exact⟨_,_,H,G,0,rfl,rfl,Twi.refl,λρ N _=>by simp only[tr];exact aIc⟩
 |row cc=>exact⟨_,_,_,_,1,rfl,rfl,Twi.one,λρ N h=>by
  simp only[tr];refine aGx ?_ ?_;{have:=h.2;omega}
  · have:=h.1 0 (by omega);simpa using this⟩
 |st cc=>obtain⟨ws,us,H',G',c,e1,e2,e3,e4⟩:=aKu (bFe _ (τ.prj cc x) hw) H n G m;exact⟨.agg ws,.agg us,H',G',c,by simp only[mM,e1],by simp only[mM,e2],e3,λρ N h=>by simp only[tr];exact oS (e4 ρ N h)⟩
 |rb cc=>exact⟨_,_,H,G,0,rfl,rfl,Twi.refl,λρ N _=>by simp only[tr];exact bS (aL (aC (τ.nr cc)))⟩
 |sb cc=>exact⟨_,_,H,G,0,rfl,rfl,Twi.refl,λρ N _=>by simp only[tr];exact oS (aL (aFy _ _))⟩
theorem bBl:∀(ps:List PK) (x:TupP τ.toTS ps),ps.all (wfP τ.toTS)=true->∀(H:TH τ.toTS) (n:Nat) (G:TH τ.toTS) (m:Nat),∃ws us H' G' c,wT τ.toTS1 ps x H n=(ws,H',n+c)/\wT τ.toTS1 ps x G m=(us,G',m+c)/\Twi τ H n H' G m G' c/\∀ρ N,Shf n m c ρ N->Rens ρ N (trs τ.toTS1 ws) (trs τ.toTS1 us)
 |[],x,_,H,n,G,m=>⟨[],[],H,G,0,rfl,rfl,Twi.refl,λρ N _=>by simp only[trs];exact iA⟩
 |[p],x,hw,H,n,G,m=>by simp only[y4,o4,e9]at hw;obtain⟨w1,u1,H1,G1,c1,a1,a2,a3,a4⟩:=rP p x hw H n G m;exact⟨[w1],[u1],H1,G1,c1,by simp only[wT,a1],by simp only[wT,a2],a3,λρ N h=>by simp only[trs];exact aW (a4 ρ N h) iA⟩
 |p::q::ps,x,hw,H,n,G,m=>by rw[y4,x5]at hw;obtain⟨w1,u1,H1,G1,c1,a1,a2,a3,a4⟩:=rP p x.1 hw.1 H n G m;obtain⟨w2,u2,H2,G2,c2,b1,b2,b3,b4⟩:=bBl (q::ps) x.2 hw.2 H1 (n+c1) G1 (m+c1);refine⟨w1::w2,u1::u2,H2,G2,c1+c2,by simp only[wT,a1,b1,m4],by simp only[wT,a2,b2,m4],a3.trans b3,λρ N h=>?_⟩;simp only[trs];exact aW (a4 ρ N h.l) (b4 ρ N h.rt)
theorem bCx(s:RK)(x:s.T τ.toTS)(hw:wfR τ.toTS s=true)(H:TH τ.toTS)(n:Nat)(G:TH τ.toTS)(m:Nat):∃w u H' G' c,iZ τ.toTS1 s x H n=(w,H',n+c)/\iZ τ.toTS1 s x G m=(u,G',m+c)/\Twi τ H n H' G m G' c/\∀ρ N,Shf n m c ρ N->Ren ρ N (tr τ.toTS1 w) (tr τ.toTS1 u):=by
 (cases s with|one p=>exact rP p x hw H n G m|two p q=>simp only[wfR,x5]at hw;obtain⟨w1,u1,H1,G1,c1,a1,a2,a3,a4⟩:=rP p x.1 hw.1 H n G m;obtain⟨w2,u2,H2,G2,c2,b1,b2,b3,b4⟩:=rP q x.2 hw.2 H1 (n+c1) G1 (m+c1);refine⟨.tup [w1,w2],.tup [u1,u2],H2,G2,c1+c2,by simp only[iZ,a1,b1,m4],by simp only[iZ,a2,b2,m4],a3.trans b3,λρ N h=>?_⟩;simp only[tr,trs];exact fX (aW (a4 ρ N h.l) (aW (b4 ρ N h.rt) iA))|three p q s=>simp only[wfR,x5]at hw;obtain⟨w1,u1,H1,G1,c1,a1,a2,a3,a4⟩:=rP p x.1 hw.1.1 H n G m;obtain⟨w2,u2,H2,G2,c2,b1,b2,b3,b4⟩:=rP q x.2.1 hw.1.2 H1 (n+c1) G1 (m+c1);obtain⟨w3,u3,H3,G3,c3,d1,d2,d3,d4⟩:=rP s x.2.2 hw.2 H2 (n+(c1+c2)) G2 (m+(c1+c2));rw[m4]at b1 b2;refine⟨.tup [w1,w2,w3],.tup [u1,u2,u3],H3,G3,c1+c2+c3,by simp only[iZ,a1,b1,d1,m4],by simp only[iZ,a2,b2,d2,m4],(a3.trans b3).trans d3,λρ N h=>?_⟩;simp only[tr,trs];exact fX (aW (a4 ρ N h.l.l) (aW (b4 ρ N h.l.rt) (aW (d4 ρ N h.rt) iA)))|tup p q ps=>obtain⟨ws,us,H',G',c,a1,a2,a3,a4⟩:=bBl (p::q::ps) x hw H n G m;exact⟨.tup ws,.tup us,H',G',c,by simp only[iZ,a1],by simp only[iZ,a2],a3,λρ N h=>by simp only[tr];exact fX (a4 ρ N h)⟩)
theorem HtOk.heapEq{Hq:Heap}(h:HtOk τ.toTS1 H n Hp)(e:∀r,Hq.get1 r=Hp.get1 r):HtOk τ.toTS1 H n Hq:=⟨λr=>by rw[e];exact h.heap r,h.all,h.low,h.tm⟩
theorem aRy:∀{pl:List Nat} {H:TH τ.toTS} {Hp:Heap},HtOk τ.toTS1 H n Hp->(∀r∈pl,r<n)->(∃Hq,HtOk τ.toTS1 (nY H pl) n Hq)/\Ext H n (nY H pl)/\FxH H (nY H pl)
 |[],H,Hp,h,_=>⟨⟨Hp,h⟩,Ext.refl,FxH.refl⟩
 |p::pl,H,Hp,h,hl=>by obtain⟨k1,k2⟩:=h.kill (hl p (by simp));obtain⟨a,b,c⟩:=aRy (pl:=pl) k1 λr hr=>hl r (m8 _ hr);exact⟨a,k2.trans (k9 n) b,kill_fx.trans c⟩
theorem xO:∀{pl:List Nat} {H:TH τ.toTS} {r:Nat},lkH (nY H pl) r=if r∈pl then none else lkH H r
 |[],H,r=>by simp[nY]
 |p::pl,H,r=>by simp only[nY];rw[xO,aM];by_cases e:r∈pl;{simp[e]};{by_cases e2:p=r;{subst e2;simp};{have:¬r=p:=λx=>e2 x.symm;simp[e,e2,this]}}
theorem bPt{pl:List Nat}(h:HtOk τ.toTS1 H n Hp)(hl:∀r∈pl,r<n):HtOk τ.toTS1 (nY H pl) n (kO pl Hp):=by obtain⟨⟨Hq,a⟩,_⟩:=aRy h hl;refine a.heapEq λr=>?_;rw[qH,a.heap,xO];split;{rfl};{exact h.heap r}
theorem HtOk.cellsPut{r:Nat}{e:TypeId}{us:List (TV τ.toTS)}{us2:List Nat}(h:HtOk τ.toTS1 H n Hp)(hr:r<n)(hu:Gds H n us)(hl:us2.length=us.length):HtOk τ.toTS1 (H.put r (some (.cells e us us2))) n ((r,some ⟨e,trs τ.toTS1 us⟩)::Hp)/\Ext H n (H.put r (some (.cells e us us2))):=h.turn hr Ex1.cells ⟨hu,hl⟩
abbrev Kep(τ:TS2)(l:List (Nat×Nat×List (TV τ.toTS))):Prop:=∀q∈l,τ.pl q.2.1=true/\∃x:τ.T q.2.1,q.2.2=encS τ.toTS1 q.2.1 x
theorem bIa{pl:List Nat}:∀{l:List (Nat×Nat×List (TV τ.toTS))} {H:TH τ.toTS} {Hp:Heap},HtOk τ.toTS1 H n Hp->Kep τ l->(∀q∈l,pl.getD q.1 0<n)->HtOk τ.toTS1 (bBi pl l H) n (xF τ.toTS1 pl l Hp)/\Ext H n (bBi pl l H)/\FxH H (bBi pl l H)
 |[],H,Hp,h,_,_=>⟨h,Ext.refl,FxH.refl⟩
 |(j,e,vs)::l,H,Hp,h,hk,hl=>by obtain⟨hpl,x,hx⟩:=hk _ List.mem_cons_self;have hpl:τ.pl e=true:=hpl;have hx:vs=encS τ.toTS1 e x:=hx;obtain⟨a,b⟩:=h.cellsPut (r:=pl.getD j 0) (e:=e) (us:=vs) (us2:=vs.map λ_=>H.q) (hl _ List.mem_cons_self) (by rw[hx];exact oT _ _ (τ.plf e hpl)) (by rw[t8]);obtain⟨c,d,f⟩:=bIa a (λq hq=>hk q (m8 _ hq)) λq hq=>hl q (m8 _ hq);exact⟨c,b.trans (k9 n) d,FxH.putNew.trans f⟩
theorem aQz{pl:List Nat}:∀{l:List (Nat×Nat×List (TV τ.toTS))} {Hp:Heap},xF τ.toTS1 pl l Hp=xF τ.toTS1 pl l []++Hp
 |[],Hp=>rfl
 |(j,e,vs)::l,Hp=>by simp only[xF];rw[aQz,aQz (Hp:=[_]),qQY];rfl
theorem bFi{pl:List Nat}{i:Nat}{t:Root}:∀{l:List (Nat×Nat×List (TV τ.toTS))} {Hp:Heap},(xF τ.toTS1 pl l Hp).get1 i=some t->(∃q∈l,i=pl.getD q.1 0/\t=⟨q.2.1,trs τ.toTS1 q.2.2⟩)\/Hp.get1 i=some t
 |[],Hp,h=> .inr h
 |(j,e,vs)::l,Hp,h=>by simp only[xF]at h;rcases bFi h with⟨q,hq,a⟩|h;{exact .inl ⟨q,m8 _ hq,a⟩};{rw[cQ]at h;split at h;{rename_i e1;cases h;exact .inl ⟨_,List.mem_cons_self,e1.symm,rfl⟩};{exact .inr h}}
theorem aXo{pl:List Nat}{i:Nat}:∀{l:List (Nat×Nat×List (TV τ.toTS))} {Hp:Heap},i∈fC (xF τ.toTS1 pl l Hp)->(∃q∈l,i=pl.getD q.1 0)\/i∈fC Hp
 |[],Hp,h=> .inr h
 |(j,e,vs)::l,Hp,h=>by simp only[xF]at h;rcases aXo h with⟨q,hq,a⟩|h;{exact .inl ⟨q,m8 _ hq,a⟩};{simp only[fC,m5,g8]at h;rcases h with h|h;{exact .inl ⟨_,List.mem_cons_self,h⟩};{exact .inr h}}
theorem aCa{X:Type}:∀{qs:List QK} {j:Nat} {y:KT τ.toTS qs X},qs.all (wfQ τ.toTS)=true->Kep τ (kpR τ.toTS1 qs j y)
 |[],_,_,_=>λq h=>by cases h
 | .pt t::qs,j,y,hw=>λq h=>by rw[y4,x5]at hw;simp only[kpR,g8]at h;rcases h with rfl|h;{exact⟨hw.1,y.1,rfl⟩};{exact aCa hw.2 q h}
 | .v _::qs,j,y,hw=>aCa (qs:=qs) (y:=y) (by rw[y4,x5]at hw;exact hw.2)
 | .ow _::qs,j,y,hw=>aCa (qs:=qs) (y:=y) (by rw[y4,x5]at hw;exact hw.2)
 | .os _::qs,j,y,hw=>aCa (qs:=qs) (y:=y) (by rw[y4,x5]at hw;exact hw.2)
theorem bJl:∀{l:List (Nat×Nat×List (TV τ.toTS))} {q:Nat×Nat×List (TV τ.toTS)},dH (l.map λq=>some q.1)=true->q∈l->lkH (kpH l) q.1=some (.cells q.2.1 q.2.2 (q.2.2.map λ_=>1))
 |[],q,_,h=>by cases h
 |p::l,q,hn,h=>by simp only[m5,dH,x5,u0,List.contains_eq_mem,decide_eq_false_iff_not]at hn;simp only[lkH,kpH,m5,lF];(cases hb:f9 p.1 q.1 with|true=>have e:=w6 hb;rcases g8.1 h with rfl|h;{rfl};{exact absurd (List.mem_map.2 ⟨q,h,by rw[e]⟩) hn.1}|false=>rcases g8.1 h with rfl|h;{have:f9 q.1 q.1=true:=(by simp);rw[this]at hb;cases hb};{exact bJl hn.2 h})
theorem bHc{M l:List Nat}(h:bLb M l=true):∀r∈l,r∈M:=λr hr=>by simp only[bLb,w5,List.any_eq_true]at h;obtain⟨x,hx,e⟩:=h r hr;rw[w6 e];exact hx
theorem bVz{A B:Heap}{i:Nat}(h:i∈fC (A++B)):i∈fC A\/i∈fC B:=by simpa only[fC,List.map_append,List.mem_append]using h
theorem bFj{pl:List Nat}:rho (pl.map some)=λi=>pl[i]? :=funext λi=>by simp only[rho,x6,qXX];cases pl[i]? <;>rfl
theorem bVu{f:FuncId}{s:Sw τ.toTS}{R:Type}{r:R}{K:TV τ.toTS->TH τ.toTS->Nat->Option R}{Kp:AV->Heap->Nat->Prop}{tl:List Nat}{vs:List (TV τ.toTS)}(h:bLs τ.toTS1 H n tl s vs K=some r)(hs:SjP τ.toTS1 P f s.r s.qs s.qs [] TH.emp 0 s.F)(hh:HtOk τ.toTS1 H n Hp)(hg:Gds H n vs){as:List AV}(ha:VsOk τ.toTS1 vs as)(hK:KtOk τ.toTS1 H n Hp false tl K Kp r):∃v' Hf n',Inl P f as Hp n v' Hf n'/\Kp v' Hf n':=by
 unfold bLs at h;split at h;rename_i H2 vs2 hz;split at h
 · rename_i Fx pl hq
   obtain⟨hb,h1⟩:=aF h;clear h;simp only[x5]at hb;obtain⟨⟨⟨⟨⟨⟨⟨hwr,hwq⟩,b1⟩,b2⟩,b3⟩,b0⟩,b4⟩,b5⟩:=hb;obtain⟨y,hy,h2⟩:=bind_some h1;clear h1;obtain⟨hb2,h3⟩:=aF h2;clear h2;simp only[x5,w5]at hb2;obtain⟨b6,b7⟩:=hb2;have pln:∀r∈pl,r<n:=λr hr=>by simp only[below,w5]at b0;have:=b0 r hr;simp only[Nat.blt,qQV]at this;omega
   have b6:∀q∈kpR τ.toTS1 s.qs 0 y,pl.idxOf? (pl.getD q.1 0)=some q.1:=λq hq=>by have:=b6 q hq;unfold cCz at this;split at this;{rename_i i hi;rw[hi,w6 this]};{cases this}
   have eas:=VsOk.all ha b1;obtain⟨Hp2,z1,z2,z3,z4,z5,z6⟩:=aTt hz hh hg;have hkep:Kep τ (kpR τ.toTS1 s.qs 0 y):=aCa hwq;obtain⟨as',Hc,j1,j2,j3⟩:=bHw (us:=[]) (H:=TH.emp) (n:=0) (ρ:=rho (pl.map some)) (m:=pl.length) hq hs z3 ⟨λr t hr=>by cases hr⟩ (by simp only[trs];exact iA) (λk hk=>by rw[p9];exact getD_some hk) (by omega);rw[p9]at j1;have j4:=j1 y hy;obtain⟨w,u,H',G',c,t1,t2,t3,t4⟩:=bCx s.r (kpX s.qs y) hwr (TH.emp:TH τ.toTS) n (kpH (kpR τ.toTS1 s.qs 0 y)) pl.length;simp only[SjE,t2]at j4;have k1:=bPt z2 pln;obtain⟨_,k2,k3⟩:=aRy z2 pln;generalize kpR τ.toTS1 s.qs 0 y=l at*;have lm:∀q∈l,pl.getD q.1 0∈pl/\q.1<pl.length:=λq hq=>by have:=aBs (b6 q hq);exact⟨List.mem_of_getElem? this,(List.getElem?_eq_some_iff.1 this).1⟩
   obtain⟨p1,p2,p3⟩:=bIa k1 hkep λq hq=>pln _ (lm q hq).1;obtain⟨v,H5,n5,Hr,e1,e2,e3,e4,ex,e5,e6⟩:=aCc s.r (kpX s.qs y) hwr p1;rw[e1]at h3;obtain⟨w2,H6,n6,Hr2,f1,f2,f3,f4,fx,f5,f6⟩:=aCc (n:=n) s.r (kpX s.qs y) hwr (aGo (τ:=τ));rw[t1]at f1;rw[e2]at f2;simp only[Prod.mk.injEq]at f1 f2;obtain⟨g1,g2,g3⟩:=f1;obtain⟨g4,g5,g6⟩:=f2;subst g1 g2 g5;rw[<-g3]at g6 f5;subst g6;rw[r8]at f5;have hge:∀i,i∈fC Hr->n<=i:=λi hi=>by obtain⟨p,hp,rfl⟩:=List.mem_map.1 hi;exact bHr p (by rw[e2];exact hp)
   have idn:∀i,n<=i->pl.idxOf? i=none:=λi hi=>by(cases hx:pl.idxOf? i with|none=>rfl|some j=>have:=pln _ (List.mem_of_getElem? (aBs hx));omega)
   have rn:∀i,n<=i->eW pl pl.length (pl.length+c) n i=some (i-n+pl.length):=λi hi=>by unfold eW;rw[idn i hi];simp only[];rw[if_pos hi]
   have plc:∀i,i∈fC (Hr++xF τ.toTS1 pl l [])->(∃q∈l,i=pl.getD q.1 0)\/n<=i:=λi hi=>by rcases bVz hi with h|h;{exact .inr (hge i h)};{rcases aXo h with h|h;{exact .inl h};{cases h}}
   have e5':HtOk τ.toTS1 H5 (n+c) (Hr++xF τ.toTS1 pl l []++kO pl Hp2):=(by rw[qQY,<-aQz];exact e5);refine⟨tr τ.toTS1 v,Hr++xF τ.toTS1 pl l []++kO pl Hp2,n+c,?_,hK v _ H5 _ _ h3 (.inr rfl) e3 ((z4.trans (k9 n) k2).trans (k9 n) (p2.trans (k9 n) e4)) ((z5.trans k3).trans (p3.trans ex)) e5' e6 ⟨λq=>(by cases q),λi hi hni=>?_⟩⟩
   · rw[eas]
     refine Inl.ent z1 (Inl.frame pl j4 rfl pln (by omega) (by rw[<-bFj];simpa using j3) ?_ (by rw[g4];exact t4 _ _ ⟨λi hi=>by rw[rn _ (by omega)];congr 1;omega,k9 _⟩) ?_ λi hi=>?_);{rw[<-bFj];refine⟨λi t2 hi=>?_,λi i' j _ _ d1 d2=>zU b3 d1 d2⟩;rw[dV]at hi;(cases ht:lkH Hc i with|none=>rw[ht]at hi;cases hi|some t=>rw[ht]at hi;cases hi;obtain⟨d1,d2,d3⟩:=j2.row i t ht;refine⟨d1,d3.imp id λ⟨j,t',x1,x2,x3⟩=>⟨j,trR τ.toTS1 t',x1,by rw[z2.heap,x2];rfl,by rw[x3],by rw[x3];exact aL d2⟩⟩)}
     · refine⟨λi t2 hi=>?_,λi i' j d1 d2 x1 x2=>?_⟩
       · rw[iX]at hi
         split at hi
         · rename_i hhas
           rw[f5.heap]at hi;have hni:=hge i (rF hhas);cases ht:lkH H' i with
           |none=>rw[ht]at hi;cases hi
           |some t=>
            rw[ht]at hi;cases hi;have hlt:i<n+c:=Nat.lt_of_not_le λhc=>by have:=t3.oh i (.inr hc);rw[ht]at this;cases this
            obtain⟨cc,xs,a,b⟩:=t3.row (i-n) (by omega);rw[show n+(i-n)=i by omega,ht]at a;cases a;refine⟨hlt,.inr ⟨_,_,rn i hni,by rw[dV,show i-n+pl.length=pl.length+(i-n) by omega,b];rfl,rfl,?_⟩⟩;simp only[trR];exact aL (aC (τ.nr cc))
         {rcases bFi hi with⟨q,hq,rfl,rfl⟩|hi;{obtain⟨m1,m2⟩:=lm q hq;have hlt:=pln _ m1;refine⟨by omega,.inr ⟨q.1,trR τ.toTS1 (.cells q.2.1 q.2.2 (q.2.2.map λ_=>1)),by unfold eW;rw[b6 q hq],by rw[dV,t3.og q.1 (.inl m2),bJl b7 hq];rfl,rfl,?_⟩⟩;obtain⟨_,x,hx⟩:=hkep q hq;simp only[trR];rw[hx];exact aL (aFy _ _)};{cases hi}}
       {rcases plc i (uZ d1)with⟨q,hq,rfl⟩|h1<;>rcases plc i' (uZ d2)with⟨q',hq',rfl⟩|h2;{have y1:eW pl pl.length (pl.length+c) n (pl.getD q.1 0)=some q.1:=(by unfold eW;rw[b6 q hq]);have y2:eW pl pl.length (pl.length+c) n (pl.getD q'.1 0)=some q'.1:=(by unfold eW;rw[b6 q' hq']);rw[y1]at x1;rw[y2]at x2;cases x1;have:=w7.inj x2;rw[this]};{have y1:eW pl pl.length (pl.length+c) n (pl.getD q.1 0)=some q.1:=(by unfold eW;rw[b6 q hq]);rw[y1]at x1;rw[rn _ h2]at x2;have a1:=w7.inj x1;have a2:=w7.inj x2;have:=(lm q hq).2;omega};{have y2:eW pl pl.length (pl.length+c) n (pl.getD q'.1 0)=some q'.1:=(by unfold eW;rw[b6 q' hq']);rw[rn _ h1]at x1;rw[y2]at x2;have a1:=w7.inj x1;have a2:=w7.inj x2;have:=(lm q' hq').2;omega};{rw[rn _ h1]at x1;rw[rn _ h2]at x2;have a1:=w7.inj x1;have a2:=w7.inj x2;omega}}
     {rcases plc i (rF hi)with⟨q,hq,rfl⟩|h;{exact .inl (lm q hq).1};{exact .inr h}}
   {have n1:i∉pl:=λhc=>hni (bHc b4 i hc);have h1:(Hr++xF τ.toTS1 pl l []).has i=false:=(by(cases hx:(Hr++xF τ.toTS1 pl l []).has i with|false=>rfl|true=>rcases plc i (rF hx)with⟨q,hq,rfl⟩|h;{exact absurd (lm q hq).1 n1};{omega}));rw[iX,h1];simp only[o8,if_false];rw[qH,if_neg n1];exact z6 i λhc=>hni (bHc b5 i hc)}
 {cases h}
end
structure Sg (τ : TS) where
 ps:List PK
 r:RK
 F:Cur τ ps (Option (r.T τ))
structure So (τ : TS) where
 ps:List PK
 c:Nat
 F:Cur τ ps (Option (τ.T c))
def SoP(τ:TS1)(P:Program)(f:FuncId)(c:Nat):(ps:List PK)->List AV->Cur τ.toTS ps (Option (τ.T c))->Prop
 |[],acc,F=>∀x,F=some x->Inl P f acc [] 0 (.ptr 0 [] 0) [(0,some ⟨c,τ.av c x⟩)] 1
 |p::ps,acc,F=>∀x:p.T τ.toTS,SoP τ P f c ps (acc++[avP τ p x]) (F x)
def bFa(τ:TS1){X:Type}:(ps:List PK)->Cur τ.toTS ps X->List (TV τ.toTS)->Option X
 |[],F,[]=>some F
 |p::ps,F,v::vs=>match exP τ p v with
  |some x=>bFa τ ps (F x) vs
  |none=>none
 |_,_,_=>none
section
variable {τ : TS2} {P : Program} {n : Nat} {Hp : Heap}
theorem bHh{f:FuncId}{c m:Nat}{ρ:Nat->Option Nat}:∀{ps:List PK} {F:Cur τ.toTS ps (Option (τ.T c))} {vs:List (TV τ.toTS)} {acc us:List AV} {Fx:Option (τ.T c)},bFa τ.toTS1 ps F vs=some Fx->SoP τ.toTS1 P f c ps acc F->Rens ρ m acc us->∃args,SoP τ.toTS1 P f c [] args Fx/\Rens ρ m args (us++trs τ.toTS1 vs)
 |[],F,[],acc,us,Fx,h,hs,hr=>by simp only[bFa,w7.injEq]at h;subst h;exact⟨acc,hs,by simpa[trs]using hr⟩
 |[],F,v::vs,_,_,_,h,_,_=>by cases h
 |p::ps,F,[],_,_,_,h,_,_=>by cases h
 |p::ps,F,v::vs,acc,us,Fx,h,hs,hr=>by simp only[bFa]at h;split at h;{rename_i x hx;obtain⟨args,a1,a2⟩:=bHh (us:=us++[tr τ.toTS1 v]) h (hs x) (bBc hr (aW (by rw[<-bGu];exact bNj hx) iA));exact⟨args,a1,by simpa[trs]using a2⟩};{cases h}
theorem bVw{f:FuncId}{c:Nat}{x:τ.T c}{args as:List AV}(hs:SoP τ.toTS1 P f c [] args (some x))(ha:Rens (λi=>([]:List Nat)[i]?) 0 args as):Inl P f as Hp n (.ptr n [] 0) ((n,some ⟨c,τ.av c x⟩)::Hp) (n+1):=by
 have e:eW [] 0 1 n n=some 0:=(by simp[eW]);have g:∀r t,Heap.get1 [(n,some ⟨c,τ.av c x⟩)] r=some t->r=n/\t=⟨c,τ.av c x⟩:=λr t h=>by rw[cQ]at h;split at h;{rename_i e;cases h;exact⟨e.symm,rfl⟩};{cases h}
 refine Inl.frame (Hp':=[(n,some ⟨c,τ.av c x⟩)]) [] (hs x rfl) rfl (λr hr=>(by cases hr)) rfl ha ⟨λr t h=>(by cases h),λr r' j h=>(by cases h)⟩ (aNe (y8 n) e) ⟨λr t h=>?_,λr r' j h k _ _=>?_⟩ λr hr=> .inr ?_;{obtain⟨rfl,rfl⟩:=g r t h;exact⟨y8 r,.inr ⟨0,_,e,rfl,rfl,aL (τ.nr c x)⟩⟩};{obtain⟨t,ht⟩:=y3.1 h;obtain⟨u,hu⟩:=y3.1 k;exact(g r t ht).1.trans (g r' u hu).1.symm};{have:=rF hr;simp only[fC,m5,List.map_nil,u9]at this;omega}
end
inductive Sx (τ : TS) where
 |r (g:Sg τ)
 |w (g:Sw τ)
 |o (g:So τ)
abbrev Ctx(τ:TS):=Nat->Option (Sx τ)
def cAr(τ:TS1)(P:Program)(f:FuncId):Sx τ.toTS->Prop
 | .r s=>SgP τ P f (avR τ s.r) s.ps [] s.F
 | .w s=>SjP τ P f s.r s.qs s.qs [] TH.emp 0 s.F
 | .o s=>SoP τ P f s.c s.ps [] s.F
def sM(τ:TS1)(P:Program)(Γ:Ctx τ.toTS):Prop:=∀f s,Γ f=some s->cAr τ P f s
def aEt(τ:TS1)(Γ:Ctx τ.toTS){R:Type}(E:TE τ.toTS)(H:TH τ.toTS)(n:Nat)(K:TV τ.toTS->TH τ.toTS->Nat->Option R):LOp->Option R
 | .call f ys=>match Γ f with
  |some (.r s)=>gb (ys.all pW&&wfR τ.toTS s.r) (match okR τ.toTS s.r with
   |true=>x4 (aWy τ H s.ps s.F (ys.map (ovl E))) λx=>match iZ τ s.r x H n with|(v,H',n')=>K v H' n'
   |false=>match frz H (ys.map (ovl E)) (nR [] (iE (ys.map (ovl E))))with
    |(H2,vs)=>gb ((nR [] (iE (ys.map (ovl E)))).isEmpty||(ys.map (ovl E)).all nU) (x4 (aWy τ TH.emp s.ps s.F vs) λx=>match iZ τ s.r x H2 n with|(v,H',n')=>K v H' n'))
  |some (.w s)=>gb (ys.all pW) (bLs τ H n (nR [] (iE (ys.map (ovl E)))) s (ys.map (ovl E)) K)
  |some (.o s)=>gb (ys.all pW&&τ.pl s.c&&(ys.map (ovl E)).all nU) (match bFa τ s.ps s.F (ys.map (ovl E))with
   |some Fx=>x4 Fx λx=>K (.v (.ptr n [] 0)) (H.put n (some (.cells s.c (encS τ s.c x) ((encS τ s.c x).map λ_=>H.q)))) (n+1)
   |none=>none)
  |none=>none
 |op=>gb (op.consts.all pW) (dop τ E H n K op)
def trc{τ:TS}(Γ:Ctx τ)(E:TE τ):LOp->List Nat
 | .call f ys=>match Γ f with
  |some (.r s)=>match okR τ s.r with
   |true=>[]
   |false=>nR [] (iE (ys.map (ovl E)))
  |some (.w _)=>nR [] (iE (ys.map (ovl E)))
  |some (.o _)=>[]
  |none=>[]
 |op=>trn E op
def eF{τ:TS}(L:Nat)(E:TE τ)(d:Option Nat)(v:TV τ):TE τ:=match d with
 |some d=>match Nat.blt d L with|true=>E.put d v|false=>E
 |none=>E
def wL(τ:TS1)(Γ:Ctx τ.toTS)(L:Nat){R:Type}:List LOper->TE τ.toTS->TH τ.toTS->Nat->(TE τ.toTS->TH τ.toTS->Nat->Option R)->Option R
 |[],E,H,n,K=>K E H n
 |o::os,E,H,n,K=>match o.g with
  |none=>aEt τ Γ E H n (λv H' n'=>wL τ Γ L os (eF L E o.dst v) H' n' K) o.op
  |some (t,want)=>match lkE E t with
   | .v (.bool b)=>cond b
    (match want with
     |true=>aEt τ Γ (E.put t (.v (.bool true))) H n (λv H' n'=>wL τ Γ L os (eF L (E.put t (.v (.bool true))) o.dst v) H' n' K) o.op
     |false=>wL τ Γ L os (eF L (E.put t (.v (.bool true))) o.dst (.v .und)) H n K)
    (match want with
     |false=>aEt τ Γ (E.put t (.v (.bool false))) H n (λv H' n'=>wL τ Γ L os (eF L (E.put t (.v (.bool false))) o.dst v) H' n' K) o.op
     |true=>wL τ Γ L os (eF L (E.put t (.v (.bool false))) o.dst (.v .und)) H n K)
   | .v .und=>wL τ Γ L os (eF L E o.dst (.v .und)) H n K
   |_=>none
section
variable {τ : TS2} {R : Type} {r : R} {P : Program} {Γ : Ctx τ.toTS} {H H' : TH τ.toTS} {n n' : Nat} {Hp : Heap} {L : Nat} {E : TE τ.toTS} {env : List AV}
theorem aUv(he:EOk τ.toTS1 L E H n env):∀{ys:List Opd},ys.all pW=true->VsOk τ.toTS1 (ys.map (ovl E)) (ys.map (·.val env))/\Gds H n (ys.map (ovl E))
 |[],_=>⟨rfl,by simp only[List.map_nil,Gds]⟩
 |y::ys,h=>by simp only[y4,x5]at h;obtain⟨h1,h2⟩:=cA he y (aV h.1);obtain⟨h3,h4⟩:=aUv he h.2;exact⟨⟨_,_,rfl,h1,h3⟩,by simp only[m5,Gds];exact⟨h2,h4⟩⟩
theorem aRc{qt:Bool}{tn:List Nat}{r v:AV}{Hr:Heap}(hq:qt=false)(hn:bM n r=(v,Hr,n')):Chg qt tn H n Hp H' n' (Hr++Hp):=⟨λh=>(by rw[hq]at h;cases h),λi hi _=>uU (M:=[]) (n0:=n) hn (k9 n) i hi rfl⟩
theorem aWh(hΓ:sM τ.toTS1 P Γ){K:TV τ.toTS->TH τ.toTS->Nat->Option R}{Kp:AV->Heap->Nat->Prop}{op:LOp}(h:aEt τ.toTS1 Γ E H n K op=some r)(he:EOk τ.toTS1 L E H n env)(hh:HtOk τ.toTS1 H n Hp)(hK:KtOk τ.toTS1 H n Hp op.quiet (trc Γ E op) K Kp r):xop P env Hp n Kp op:=by
 unfold aEt at h;split at h
 · rename_i f ys
   split at h
   · rename_i s hs
     obtain⟨hb,h⟩:=aF h;rw[x5]at hb;obtain⟨hb,hwr⟩:=hb;have q2:SgP τ.toTS1 P f (avR τ.toTS1 s.r) s.ps [] s.F:=hΓ f _ hs;obtain⟨v1,v2⟩:=aUv he hb;have et:trc Γ E (.call f ys)=match okR τ.toTS s.r with|true=>[]|false=>nR [] (iE (ys.map (ovl E))):=by simp only[trc,hs]
     rw[et]at hK;split at h;{rename_i q1;obtain⟨x,hx,h⟩:=bind_some h;obtain⟨v,H',n',Hr,e1,e2,e3,e4,ex,e5,e6⟩:=aCc s.r x hwr hh;rw[e1]at h;obtain⟨args,a1,a2⟩:=aFo (us:=[]) hh hx q2 v2 v1 rfl;obtain⟨b1,b2⟩:=bZo s.r x q1;exact dJ (gZ (K:=Kp) a2 (by simpa using a1) b2 b1 e2 ⟨hK v _ H' n' _ h (.inr rfl) e3 e4 ex e5 e6 (aRc rfl e2)⟩).un};{rename_i q1;rw[q1]at hK;split at h;rename_i H2 vs hz;obtain⟨hu,h1⟩:=aF h;clear h;obtain⟨x,hx,h2⟩:=bind_some h1;clear h1;rw[Bool.or_eq_true]at hu;rcases hu with hu|hu;{have hu:=List.isEmpty_iff.1 hu;rw[hu]at hz;simp only[frz,Prod.mk.injEq]at hz;obtain⟨rfl,rfl⟩:=hz;obtain⟨v,H',n',Hr,e1,e2,e3,e4,ex,e5,e6⟩:=aCc s.r x hwr hh;rw[e1]at h2;obtain⟨args,a1,a2⟩:=aFo (us:=[]) aGo hx q2 v2.emp v1 rfl;exact dJ (aIk (K:=Kp) a2 (by simpa using a1) (bOa s.r x) e2 ⟨hK v _ H' n' _ h2 (.inr rfl) e3 e4 ex e5 e6 (aRc rfl e2)⟩).un};{obtain⟨Hp2,z1,z2,z3,z4,z5,z6⟩:=aTt hz hh v2;obtain⟨v,H',n',Hr,e1,e2,e3,e4,ex,e5,e6⟩:=aCc s.r x hwr z2;rw[e1]at h2;obtain⟨args,a1,a2⟩:=aFo (us:=[]) (as:=trs τ.toTS1 vs) aGo hx q2 z3.emp (VsOk.self vs) rfl;refine dJ (bVe (K:=Kp) (args:=ys.map (·.val env)) rfl (by rw[VsOk.all v1 hu];exact z1) a2 (by simpa using a1) (bOa s.r x) e2 ⟨hK v _ H' n' _ h2 (.inr rfl) e3 (z4.trans (k9 n) e4) (z5.trans ex) e5 e6 ?_⟩).un;exact⟨λq=>(by cases q),λi hi hn=>by rw[(aRc (H:=H2) (H':=H') (qt:=false) (tn:=[]) rfl e2).old i hi (λq=>by cases q),z6 i hn]⟩}}
   {rename_i s hs;obtain⟨hb,h1⟩:=aF h;obtain⟨v1,v2⟩:=aUv he hb;have et:trc Γ E (.call f ys)=nR [] (iE (ys.map (ovl E))):=(by simp only[trc,hs]);rw[et]at hK;obtain⟨v',Hf,n',a1,a2⟩:=bVu h1 (hΓ f _ hs) hh v2 v1 hK;exact dJ (aDr (K:=Kp) a1 ⟨a2⟩).un};{rename_i s hs;obtain⟨hb,h1⟩:=aF h;clear h;simp only[x5]at hb;obtain⟨⟨hb,hp⟩,hu⟩:=hb;split at h1;{rename_i Fx hF;obtain⟨x,hx,h2⟩:=bind_some h1;subst hx;obtain⟨v1,v2⟩:=aUv he hb;obtain⟨args,a1,a2⟩:=bHh (us:=[]) (ρ:=λi=>([]:List Nat)[i]?) (m:=0) hF (show SoP τ.toTS1 P f s.c s.ps [] s.F from hΓ f _ hs) iA;obtain⟨f1,f2⟩:=hh.fresh (t:= .cells s.c (encS τ.toTS1 s.c x) ((encS τ.toTS1 s.c x).map λ_=>H.q)) ⟨oT _ _ (τ.plf s.c hp),t8 _⟩;have et:trc Γ E (.call f ys)=[]:=(by simp only[trc,hs]);rw[et]at hK;rw[r6]at a2;have i1:=bVw (Hp:=Hp) (n:=n) a1 a2;rw[<-VsOk.all v1 hu]at i1;refine dJ (aDr (K:=Kp) i1 ⟨?_⟩).un;rw[τ.avE];exact hK _ _ _ _ _ h2 (.inr (by simp only[tr])) (l9 n) f2 FxH.putNew f1 (by simp only[Gd,plainV];exact⟨y8 n,trivial⟩) ⟨λq=>(by cases q),λi hi _=>by rw[cQ,if_neg (by omega)]⟩};{cases h1}};{cases h}
 {rename_i hne;obtain⟨hb,h⟩:=aF h;have et:trc Γ E op=trn E op:=(by cases op<;>first|exact(hne _ _ rfl).elim|rfl);rw[et]at hK;exact bPv h hb he hh hK}
theorem EOk.ext(he:EOk τ.toTS1 L E H n env)(hn:n<=n')(hx:Ext H n H'):EOk τ.toTS1 L E H' n' env:=⟨he.len,he.env,λi=>(he.good i).ext hn hx,he.tm⟩
theorem EOk.note{t:Nat}{v:TV τ.toTS}(he:EOk τ.toTS1 L E H n env)(hv:v= .v .unk\/env.getD t .unk=tr τ.toTS1 v)(hg:Gd H n v):EOk τ.toTS1 L (E.put t v) H n env:=by refine⟨he.len,λi=>?_,λi=>?_,aWo he.tm⟩;{rw[nO];split;{rename_i e;subst e;exact hv};{exact he.env i}};{rw[nO];split;{exact hg};{exact he.good i}}
theorem EOk.put{d:Option Nat}{v:TV τ.toTS}{a:AV}(he:EOk τ.toTS1 L E H n env)(hv:v= .v .unk\/a=tr τ.toTS1 v)(hg:Gd H n v):EOk τ.toTS1 L (eF L E d v) H n (Go.Proofs.YtcgggihjcelmhaaGreat.put env d a):=by
 cases d with
 |none=>exact he
 |some d=>
  simp only[eF,Go.Proofs.YtcgggihjcelmhaaGreat.put];cases hb:Nat.blt d L with
  |true=>have hd:d<L:=(by simpa[Nat.blt_eq]using hb);refine⟨by rw[t7];exact he.len,λi=>?_,λi=>?_,aWo he.tm⟩;{rw[nO];split;{rename_i e;subst e;refine hv.imp id λh=>?_;rw[x6,qXH (by rw[he.len];exact hd)];exact h};{rename_i e;rw[x6,List.getElem?_set_ne e,<-x6];exact he.env i}};{rw[nO];split;{exact hg};{exact he.good i}}
  |false=>
   have hd:¬d<L:=λhc=>by rw[show Nat.blt d L=true by simpa[Nat.blt_eq]using hc]at hb;cases hb
   rw[qXY (by rw[he.len];omega)];exact he
theorem vR{d:Option Nat}{v:TV τ.toTS}:FxE E (eF L E d v):=by unfold eF;split;{split;{exact FxE.put};{exact FxE.refl}};{exact FxE.refl}
theorem aBz(hΓ:sM τ.toTS1 P Γ){Kp:List AV->Heap->Nat->Prop}:∀{os:List LOper} {E:TE τ.toTS} {H:TH τ.toTS} {n:Nat} {env:List AV} {Hp:Heap} {K:TE τ.toTS->TH τ.toTS->Nat->Option R},wL τ.toTS1 Γ L os E H n K=some r->EOk τ.toTS1 L E H n env->HtOk τ.toTS1 H n Hp->
 (∀E' H' n' env' Hp',K E' H' n'=some r->EOk τ.toTS1 L E' H' n' env'->n<=n'->FxE E E'->FxH H H'->HtOk τ.toTS1 H' n' Hp'->Kp env' Hp' n')->eX P Kp os env Hp n
 |[],E,H,n,env,Hp,K,h,he,hh,hK=>hK E H n env Hp h he (k9 n) FxE.refl FxH.refl hh
 |o::os,E,H,n,env,Hp,K,h,he,hh,hK=>by
  have step:∀{E2:TE τ.toTS},FxE E E2->EOk τ.toTS1 L E2 H n env->aEt τ.toTS1 Γ E2 H n (λv H' n'=>wL τ.toTS1 Γ L os (eF L E2 o.dst v) H' n' K) o.op=some r->xop P env Hp n (λv H' n'=>eX P Kp os (put env o.dst v) H' n') o.op:=λ{E2} fx he h=>
   aWh hΓ h he hh λv a H' n' Hp' hk hv hn hx hf hh' hg _=>aBz hΓ hk ((he.ext hn hx).put hv hg) hh' λE3 H3 n3 env3 Hp3 k1 k2 k3 k4 k5 k6=>hK E3 H3 n3 env3 Hp3 k1 k2 (by omega) ((fx.trans vR).trans k4) (hf.trans k5) k6
  have skip:∀{E2:TE τ.toTS},FxE E E2->EOk τ.toTS1 L E2 H n env->wL τ.toTS1 Γ L os (eF L E2 o.dst (.v .und)) H n K=some r->eX P Kp os (put env o.dst .und) Hp n:=λ{E2} fx he h=>
   aBz hΓ h (he.put (.inr (by simp only[tr])) (by simp only[Gd,plainV])) hh λE3 H3 n3 env3 Hp3 k1 k2 k3 k4 k5 k6=>hK E3 H3 n3 env3 Hp3 k1 k2 k3 ((fx.trans vR).trans k4) k5 k6
  unfold wL at h;unfold eX;split at h;{rename_i hg;rw[hg];exact step FxE.refl he h};{rename_i t want hg;rw[hg];split at h;{rename_i b hb;have h1:=he.env t;rw[hb]at h1;have e1:env.getD t .unk= .bool b:=h1.elim (λe=>by cases e) (λe=>by simpa only[tr]using e);simp only[e1];have hn:EOk τ.toTS1 L (E.put t (.v (.bool b))) H n env:=he.note (.inr (by rw[e1];simp only[tr])) (by simp only[Gd,plainV]);cases b;{simp only[cond_false]at h;cases want;{simp only[if_true];exact step FxE.put hn h};{simp only[o8,if_false];exact skip FxE.put hn h}};{simp only[cond_true]at h;cases want;{simp only[Bool.true_eq_false,if_false];exact skip FxE.put hn h};{simp only[if_true];exact step FxE.put hn h}}};{rename_i hb;have h1:=he.env t;rw[hb]at h1;have e1:env.getD t .unk= .und:=h1.elim (λe=>by cases e) (λe=>by simpa only[tr]using e);simp only[e1];exact skip FxE.refl he h};{cases h}}
end
def aWw(τ:TS1)(Γ:Ctx τ.toTS){R:Type}(E:TE τ.toTS)(H:TH τ.toTS)(n:Nat)(K:TV τ.toTS->Option R):LOp->Option R
 | .call f ys=>match Γ f with
  |some (.r s)=>gb (ys.all pW) (x4 (aWy τ H s.ps s.F (ys.map (ovl E))) λx=>match bMe τ s.r x with
   |some v=>K v
   |none=>none)
  |_=>none
 |op=>gb (op.quiet&&op.consts.all pW) (dop τ E H n (λv _ _=>K v) op)
def dqs(τ:TS1)(Γ:Ctx τ.toTS)(L:Nat){R:Type}(H:TH τ.toTS)(n:Nat):List LOper->TE τ.toTS->(TE τ.toTS->Option R)->Option R
 |[],E,K=>K E
 |o::os,E,K=>match o.g with
  |none=>aWw τ Γ E H n (λv=>dqs τ Γ L H n os (eF L E o.dst v) K) o.op
  |some (t,want)=>match lkE E t with
   | .v (.bool b)=>cond b
    (match want with
     |true=>aWw τ Γ E H n (λv=>dqs τ Γ L H n os (eF L (E.put t (.v (.bool true))) o.dst v) K) o.op
     |false=>dqs τ Γ L H n os (eF L (E.put t (.v (.bool true))) o.dst (.v .und)) K)
    (match want with
     |false=>aWw τ Γ E H n (λv=>dqs τ Γ L H n os (eF L (E.put t (.v (.bool false))) o.dst v) K) o.op
     |true=>dqs τ Γ L H n os (eF L (E.put t (.v (.bool false))) o.dst (.v .und)) K)
   | .v .und=>dqs τ Γ L H n os (eF L E o.dst (.v .und)) K
   |_=>none
def bFm(M:List Nat)(l:List Nat):Bool:=l.all λr=>!(M.contains r)
def inB(M:List Nat)(l:List Nat):Bool:=l.all λr=>M.contains r
def bKz{τ:TS}(E:TE τ):LOp->List Nat
 | .load _ _ a=>bC (ovl E a)
 |_=>[]
def dd1(τ:TS1)(Γ:Ctx τ.toTS)(M:List Nat){R:Type}(E:TE τ.toTS)(H:TH τ.toTS)(n:Nat)(fs:Fresh)(dst:Option Nat)(K:TV τ.toTS->TH τ.toTS->Nat->Fresh->Option R):LOp->Option R
 | .bsl e sz m z ps=>gb (z.all pZ&&aMg τ e sz&&(ps.map (·.2.2)).all pW) (match aHq E (aIg (z.map .v) m) ps with
  |some cs=>match aBv τ e m cs with
   |some xs=>match m with
    |0=>K (.v .emp) H n fs
    |_+1=>gb (τ.pl e) (K (.bor e xs) H n fs)
   |none=>match m with
    |0=>none
    |_+1=>K (.bl e m cs) H n fs
  |none=>none)
 | .fresh e z=>match fs,dst with
  |none,some d=>K (.v .unk) H n (some (d,e,z))
  |_,_=>none
 |op=>match op.quiet with
  |true=>gb (bFm M (bKz E op)) (aEt τ Γ E H n (λv _ _=>K v H n fs) op)
  |false=>gb (inB M (trc Γ E op)) (aEt τ Γ E H n (λv H' n'=>K v H' n' fs) op)
def dds(τ:TS1)(Γ:Ctx τ.toTS)(L:Nat)(M:List Nat){R:Type}:List LOper->TE τ.toTS->TH τ.toTS->Nat->Fresh->(TE τ.toTS->TH τ.toTS->Nat->Fresh->Option R)->Option R
 |[],E,H,n,fs,K=>K E H n fs
 |o::os,E,H,n,fs,K=>match o.g with
  |none=>dd1 τ Γ M E H n fs o.dst (λv H' n' fs'=>dds τ Γ L M os (eF L E o.dst v) H' n' fs' K) o.op
  |some (t,want)=>match lkE E t with
   | .v (.bool b)=>cond b
    (match want with
     |true=>dd1 τ Γ M E H n fs o.dst (λv H' n' fs'=>dds τ Γ L M os (eF L (E.put t (.v (.bool true))) o.dst v) H' n' fs' K) o.op
     |false=>dds τ Γ L M os (eF L (E.put t (.v (.bool true))) o.dst (.v .und)) H n fs K)
    (match want with
     |false=>dd1 τ Γ M E H n fs o.dst (λv H' n' fs'=>dds τ Γ L M os (eF L (E.put t (.v (.bool false))) o.dst v) H' n' fs' K) o.op
     |true=>dds τ Γ L M os (eF L (E.put t (.v (.bool false))) o.dst (.v .und)) H n fs K)
   | .v .und=>dds τ Γ L M os (eF L E o.dst (.v .und)) H n fs K
   |_=>none
section
variable {τ : TS2} {R : Type} {r : R} {P : Program} {Γ : Ctx τ.toTS} {H H' : TH τ.toTS} {n n' : Nat} {Hp : Heap} {L : Nat} {E : TE τ.toTS} {env : List AV}
theorem bXf (hΓ:sM τ.toTS1 P Γ) {K:TV τ.toTS->Option R} {Kp:AV->Prop} {op:LOp} (h:aWw τ.toTS1 Γ E H n K op=some r) (he:EOk τ.toTS1 L E H n env) (hh:HtOk τ.toTS1 H n Hp)
 (hK:∀v a,K v=some r->(v= .v .unk\/a=tr τ.toTS1 v)->Gd H n v->Kp a):xq P env Hp n Kp op:=by
 unfold aWw at h;split at h;{rename_i f ys;split at h;{rename_i s hs;obtain⟨hb,h⟩:=aF h;obtain⟨x,hx,h⟩:=bind_some h;obtain⟨v1,v2⟩:=aUv he hb;obtain⟨args,a1,a2⟩:=aFo (us:=[]) hh hx (show SgP τ.toTS1 P f (avR τ.toTS1 s.r) s.ps [] s.F from hΓ f _ hs) v2 v1 rfl;split at h;{rename_i v hv;obtain⟨f1,f2,f3⟩:=bSg (H:=H) (n:=n) hv;exact⟨args,_,by simpa using a1,f2,a2,hK v _ h (.inr f1.symm) f3⟩};{cases h}};{cases h}}
 · rename_i hne
   obtain⟨hb,h⟩:=aF h;simp only[x5]at hb;have hx:xop P env Hp n (λv _ _=>Kp v) op:=bPv h hb.2 he hh λv a H' n' Hp' k1 k2 k3 k4 k5 k6 k7 k8=>by obtain⟨e1,e2,e3⟩:=k8.q hb.1;subst e1;subst e2;exact hK v a k1 k2 k7
   cases op<;>first|exact(hne _ _ rfl).elim|exact⟨hb.1,hx⟩
theorem aVm(hΓ:sM τ.toTS1 P Γ)(hh:HtOk τ.toTS1 H n Hp){Kp:List AV->Prop}:∀{os:List LOper} {E:TE τ.toTS} {env:List AV} {K:TE τ.toTS->Option R},dqs τ.toTS1 Γ L H n os E K=some r->EOk τ.toTS1 L E H n env->
 (∀E' env',K E'=some r->EOk τ.toTS1 L E' H n env'->FxE E E'->Kp env')->xqs P Hp n Kp os env
 |[],E,env,K,h,he,hK=>hK E env h he FxE.refl
 |o::os,E,env,K,h,he,hK=>by
  have step:∀{E2 E1:TE τ.toTS},FxE E E2->EOk τ.toTS1 L E2 H n env->EOk τ.toTS1 L E1 H n env->aWw τ.toTS1 Γ E1 H n (λv=>dqs τ.toTS1 Γ L H n os (eF L E2 o.dst v) K) o.op=some r->xq P env Hp n (λv=>xqs P Hp n Kp os (put env o.dst v)) o.op:=λ{E2 E1} fx he he1 h=>
   bXf hΓ h he1 hh λv a hk hv hg=>aVm hΓ hh hk (he.put hv hg) λE3 env3 k1 k2 k3=>hK E3 env3 k1 k2 ((fx.trans vR).trans k3)
  have skip:∀{E2:TE τ.toTS},FxE E E2->EOk τ.toTS1 L E2 H n env->dqs τ.toTS1 Γ L H n os (eF L E2 o.dst (.v .und)) K=some r->xqs P Hp n Kp os (put env o.dst .und):=λ{E2} fx he h=>
   aVm hΓ hh h (he.put (.inr (by simp only[tr])) (by simp only[Gd,plainV])) λE3 env3 k1 k2 k3=>hK E3 env3 k1 k2 ((fx.trans vR).trans k3)
  unfold dqs at h;unfold xqs;split at h;{rename_i hg;rw[hg];exact step FxE.refl he he h};{rename_i t want hg;rw[hg];split at h;{rename_i b hb;have h1:=he.env t;rw[hb]at h1;have e1:env.getD t .unk= .bool b:=h1.elim (λe=>by cases e) (λe=>by simpa only[tr]using e);simp only[e1];have hn:EOk τ.toTS1 L (E.put t (.v (.bool b))) H n env:=he.note (.inr (by rw[e1];simp only[tr])) (by simp only[Gd,plainV]);cases b;{simp only[cond_false]at h;cases want;{simp only[if_true];exact step FxE.put hn he h};{simp only[o8,if_false];exact skip FxE.put hn h}};{simp only[cond_true]at h;cases want;{simp only[Bool.true_eq_false,if_false];exact skip FxE.put hn h};{simp only[if_true];exact step FxE.put hn he h}}};{rename_i hb;have h1:=he.env t;rw[hb]at h1;have e1:env.getD t .unk= .und:=h1.elim (λe=>by cases e) (λe=>by simpa only[tr]using e);simp only[e1];exact skip FxE.refl he h};{cases h}}
end
section
variable {τ : TS2} {R : Type} {r : R} {P : Program} {Γ : Ctx τ.toTS} {H H' : TH τ.toTS} {n n' : Nat} {Hp : Heap} {L : Nat} {E : TE τ.toTS} {env : List AV} {M : List Nat}
theorem bJq{K:TV τ.toTS->TH τ.toTS->Nat->Option R}{op:LOp}(h:aEt τ.toTS1 Γ E H n K op=some r)(he:EOk τ.toTS1 L E H n env)(ho:bFm M (bKz E op)=true):∀q π,gV env op=some (q,π)->q<n/\M.contains q=false:=by intro q π hs;unfold gV at hs;split at hs;{rename_i ag m a;unfold aEt at h;simp only[LOp.consts,y4,o4,e9]at h;obtain⟨hc,h⟩:=aF h;obtain⟨a1,a2⟩:=cA he a (aV hc);simp only[dop,aZu]at h;simp only[bKz]at ho;split at h;{rename_i r0 o ha;rw[ha]at a1 a2 ho;have ea:a.val env= .ptr r0 [] o:=a1.elim (λe=>by cases e) (λe=>by simpa only[tr]using e);rw[ea]at hs;cases hs;simp only[Gd,plainV]at a2;simp only[bC,bFm,y4,o4,e9,u0]at ho;exact⟨a2.1,ho⟩};{rename_i r0 c0 i off ha;rw[ha]at a1 a2 ho;have ea:a.val env= .ptr r0 [] (i*τ.sz c0+off):=a1.elim (λe=>by cases e) (λe=>by simpa only[tr]using e);rw[ea]at hs;cases hs;simp only[Gd]at a2;simp only[bC,bFm,y4,o4,e9,u0]at ho;exact⟨a2.1,ho⟩};{rename_i r0 c0 i o c2 j off ha;rw[ha]at a1 a2 ho;have ea:a.val env= .ptr r0 [i*τ.sz c0+o] (j*τ.sz c2+off):=a1.elim (λe=>by cases e) (λe=>by simpa only[tr,trN]using e);rw[ea]at hs;cases hs;simp only[Gd,GdN]at a2;simp only[bC,bFm,y4,o4,e9,u0]at ho;exact⟨a2.1,ho⟩};{rename_i c xs i off ha;rw[ha]at a1;have ea:a.val env= .bptr (fl (τ.av c) xs) (i*τ.sz c+off):=a1.elim (λe=>by cases e) (λe=>by simpa only[tr]using e);rw[ea]at hs;cases hs};{cases h}};{cases hs}
theorem bAq(hΓ:sM τ.toTS1 P Γ){Kd:DK}:∀{os:List LOper} {hs:List (Heap×Nat)} {ls:List (Nat×List Nat×Option Root)} {E:TE τ.toTS} {H:TH τ.toTS} {n:Nat} {env:List AV} {Hp:Heap} {fs:Fresh} {K:TE τ.toTS->TH τ.toTS->Nat->Fresh->Option R},
 dds τ.toTS1 Γ L M os E H n fs K=some r->EOk τ.toTS1 L E H n env->HtOk τ.toTS1 H n Hp->(∀h∈hs,h.2<=n/\Agr M h.2 h.1 Hp)->(∀p∈ls,p.1<n/\M.contains p.1=false/\p.2.2=Hp.get p.1 p.2.1)->
 (∀E' H' n' env' Hp' fs',K E' H' n' fs'=some r->EOk τ.toTS1 L E' H' n' env'->n<=n'->FxE E E'->FxH H H'->HtOk τ.toTS1 H' n' Hp'->Kd env' Hp' n' fs')->xds P Kd os hs ls env Hp n fs
 |[],hs,ls,E,H,n,env,Hp,fs,K,h,he,hh,_,_,hK=>hK E H n env Hp fs h he (k9 n) FxE.refl FxH.refl hh
 |o::os,hs,ls,E,H,n,env,Hp,fs,K,h,he,hh,hhs,hls,hK=>by
  have skip:∀{E2:TE τ.toTS},FxE E E2->EOk τ.toTS1 L E2 H n env->dds τ.toTS1 Γ L M os (eF L E2 o.dst (.v .und)) H n fs K=some r->xds P Kd os hs ls (put env o.dst .und) Hp n fs:=λ{E2} fx he h=>
   bAq hΓ h (he.put (.inr (by simp only[tr])) (by simp only[Gd,plainV])) hh hhs hls λE3 H3 n3 env3 Hp3 fs3 k1 k2 k3 k4 k5 k6=>hK E3 H3 n3 env3 Hp3 fs3 k1 k2 k3 ((fx.trans vR).trans k4) k5 k6
  have run:∀{E2 E1:TE τ.toTS},mB o.g env=some true->FxE E E2->EOk τ.toTS1 L E2 H n env->EOk τ.toTS1 L E1 H n env->dd1 τ.toTS1 Γ M E1 H n fs o.dst (λv H' n' fs'=>dds τ.toTS1 Γ L M os (eF L E2 o.dst v) H' n' fs' K) o.op=some r->xds P Kd (o::os) hs ls env Hp n fs:=by
   intro E2 E1 hgate fx he he1 h
   have more:∀{v:TV τ.toTS} {a:AV} {fs':Fresh} {hs':List (Heap×Nat)} {ls':List (Nat×List Nat×Option Root)} {H':TH τ.toTS} {n':Nat} {Hp':Heap},dds τ.toTS1 Γ L M os (eF L E2 o.dst v) H' n' fs' K=some r->(v= .v .unk\/a=tr τ.toTS1 v)->Gd H' n' v->n<=n'->Ext H n H'->FxH H H'->HtOk τ.toTS1 H' n' Hp'->
    (∀h∈hs',h.2<=n'/\Agr M h.2 h.1 Hp')->(∀p∈ls',p.1<n'/\M.contains p.1=false/\p.2.2=Hp'.get p.1 p.2.1)->xds P Kd os hs' ls' (put env o.dst a) Hp' n' fs':=λ{v a fs' hs' ls' H' n' Hp'} h hv hg hn hx hf hh' q1 q2=>
    bAq hΓ h ((he.ext hn hx).put hv hg) hh' q1 q2 λE3 H3 n3 env3 Hp3 fs3 k1 k2 k3 k4 k5 k6=>hK E3 H3 n3 env3 Hp3 fs3 k1 k2 (by omega) ((fx.trans vR).trans k4) (hf.trans k5) k6
   unfold xds;rw[hgate];show(match o.op with| .bsl _ _ m z ps=>_| .fresh e z=>_|op=>_);generalize o.op=op at h ⊢;unfold dd1 at h;split at h
   · rename_i e sz m z ps
     obtain⟨hz,h0⟩:=aF h;clear h;simp only[x5]at hz;obtain⟨r1,rfl⟩:=aBy hz.1.2;obtain⟨p1,p2⟩:=wA (τ:=τ) (H:=H) (n:=n) hz.1.1;split at h0
     · rename_i cs hcs
       obtain⟨f1,f2⟩:=aIf he1 hcs hz.2 (Gds.rep p2 m);rw[aVp,p1]at f1;split at h0;{rename_i xs hxs;obtain⟨c1,c2⟩:=aCx hxs;simp only[f1];(cases m with|zero=>exact more h0 (.inr (by simp only[tr,rC])) (by simp only[Gd,plainV]) (k9 n) Ext.refl FxH.refl hh hhs hls|succ m=>obtain⟨hpl,h1⟩:=aF h0;exact more h1 (.inr (by simp only[tr,rC,c1,c2])) (by simp only[Gd];exact hpl) (k9 n) Ext.refl FxH.refl hh hhs hls)}
       · cases m with
         |zero=>cases h0
         |succ m=>simp only[f1];exact more h0 (.inr (by simp only[tr,rC])) (by simp only[Gd];exact f2) (k9 n) Ext.refl FxH.refl hh hhs hls
     {cases h0}
   {rename_i e z;(cases fs with|some p=>cases h|none=>have mr:=@more;clear more skip;generalize o.dst=od at h mr ⊢;(cases od with|none=>cases h|some d=>exact mr (a:= .unk) h (.inl rfl) (by simp only[Gd,plainV]) (k9 n) Ext.refl FxH.refl hh hhs hls))}
   · rename_i n1 n2
     split at h
     · rename_i hq
       obtain⟨ho,h0⟩:=aF h;clear h;have hse:=bJq h0 he1 ho;have hx:xop P env Hp n (λv _ _=>xds P Kd os hs (noted Hp (gV env op) ls) (put env o.dst v) Hp n fs) op:=aWh hΓ h0 he1 hh λv a H' n' Hp' k1 k2 k3 k4 k5 k6 k7 k8=>by obtain⟨e1,e2,e3⟩:=k8.q hq;subst e1;subst e2;subst e3;refine more k1 k2 k7 (k9 _) Ext.refl FxH.refl hh hhs λp hp=>?_;(cases hsn:gV env op with|none=>rw[hsn]at hp;exact hls p hp|some q=>obtain⟨q,π⟩:=q;rw[hsn]at hp;simp only[noted,g8]at hp;rcases hp with rfl|hp;{exact⟨(hse q π hsn).1,(hse q π hsn).2,rfl⟩};{exact hls p hp})
       have hsame:same Hp (gV env op) hs:=by refine xP λh0 hm=>?_;(cases hsn:gV env op with|none=>trivial|some q=>obtain⟨q,π⟩:=q;intro hlt;exact((hhs h0 hm).2.get hlt (hse q π hsn).2 π).symm)
       cases op<;>first
        |exact(n1 _ _ _ _ _ rfl).elim
        |exact(n2 _ _ rfl).elim
        |(simp only[hq];exact⟨hsame,hx⟩)
        |(simp[LOp.quiet]at hq)
     · rename_i hq
       obtain⟨ho,h0⟩:=aF h;clear h
       have hx:xop P env Hp n (λv H' n'=>n<=n'/\kept H' ls/\xds P Kd os ((H',n')::hs) ls (put env o.dst v) H' n' fs) op:=aWh hΓ h0 he1 hh λv a H' n' Hp' k1 k2 k3 k4 k5 k6 k7 k8=>by
        have ha:Agr M n Hp Hp':=λi hi hc=>k8.old i hi λe=>by simp only[inB,w5]at ho;have:=ho i e;rw[hc]at this;cases this
        refine⟨k3,aXg ha hls,more k1 k2 k7 k3 k4 k5 k6 ?_ (λp hp=>?_)⟩;{intro h0 hm;rcases g8.1 hm with rfl|hm;{exact⟨k9 _,Agr.refl⟩};{exact⟨qQQ (hhs h0 hm).1 k3,(hhs h0 hm).2.trans (ha.low (hhs h0 hm).1)⟩}};{obtain⟨q1,q2,q3⟩:=hls p hp;exact⟨o7 q1 k3,q2,by rw[ha.get q1 q2];exact q3⟩}
       cases op<;>first
        |exact(n1 _ _ _ _ _ rfl).elim
        |exact(n2 _ _ rfl).elim
        |(simp only[hq];exact hx)
        |(simp[LOp.quiet]at hq)
  have h2:=h;unfold dds at h2;split at h2;{rename_i hg;exact run (by rw[hg];rfl) FxE.refl he he h2}
  · rename_i t want hg
    split at h2
    · rename_i b hb
      have h1:=he.env t;rw[hb]at h1;have e1:env.getD t .unk= .bool b:=h1.elim (λe=>by cases e) (λe=>by simpa only[tr]using e);have hn:EOk τ.toTS1 L (E.put t (.v (.bool b))) H n env:=he.note (.inr (by rw[e1];simp only[tr])) (by simp only[Gd,plainV]);have hskip:b≠want->dds τ.toTS1 Γ L M os (eF L (E.put t (.v (.bool b))) o.dst (.v .und)) H n fs K=some r->xds P Kd (o::os) hs ls env Hp n fs:=λhne hd=>by unfold xds;have:mB o.g env=some false:=(by rw[hg];simp only[mB,e1];rw[decide_eq_false hne]);rw[this];exact skip FxE.put hn hd
      have hrun:b=want->dd1 τ.toTS1 Γ M E H n fs o.dst (λv H' n' fs'=>dds τ.toTS1 Γ L M os (eF L (E.put t (.v (.bool b))) o.dst v) H' n' fs' K) o.op=some r->xds P Kd (o::os) hs ls env Hp n fs:=λheq hd=>
       run (by rw[hg];simp only[mB,e1];rw[decide_eq_true heq]) FxE.put hn he hd
      cases b;{simp only[cond_false]at h2;cases want;{exact hrun rfl h2};{exact hskip (by simp) h2}};{simp only[cond_true]at h2;cases want;{exact hskip (by simp) h2};{exact hrun rfl h2}}
    {rename_i hb;have h1:=he.env t;rw[hb]at h1;have e1:env.getD t .unk= .und:=h1.elim (λe=>by cases e) (λe=>by simpa only[tr]using e);unfold xds;have:mB o.g env=some false:=(by rw[hg];simp only[mB,e1]);rw[this];exact skip FxE.refl he h2};{cases h2}
end
inductive JL where
 |i (k:IntKind)
 |b
 |ro (c:Nat)
 |rb (c:Nat)
abbrev JL.T(τ:TS):JL->Type
 | .i _=>Int
 | .b=>Bool
 | .ro c=>List (τ.T c)
 | .rb c=>List (τ.T c)
abbrev JT(τ:TS):List JL->Type
 |[]=>Unit
 |[a]=>a.T τ
 |a::b::l=>a.T τ×JT τ (b::l)
inductive Pl where
 |s (i:Nat)
 |c (r o:Nat)
structure Tm where
 ke:List Nat
 kh:List Nat
 lv:List (Pl×JL)
def xA{τ:TS}(L:Nat)(E:TE τ)(ls:List Nat):List (Nat×Nat×TV τ):=ls.filterMap λi=>match Nat.blt i L with|true=>some (i,tmE E i,lkE E i)|false=>none
def tH{τ:TS}(H:TH τ)(ls:List Nat):List (Nat×Nat×Option (TR τ)):=ls.map λi=>(i,tmH H i,lkH H i)
def Pl.root:Pl->List Nat
 | .s _=>[]
 | .c r _=>[r]
def Tm.mh(p:Tm):List Nat:=p.lv.flatMap λq=>q.1.root
def cK{τ:TS}:(a:JL)->a.T τ->TH τ->Nat->TV τ×TH τ×Nat
 | .i k,z,H,n=>(.v (.int k z),H,n)
 | .b,t,H,n=>(.v (.bool t),H,n)
 | .ro c,xs,H,n=>(.ws n c (x9 (α:=τ.T c) xs),H.put n (some (.row c xs)),n+1)
 | .rb c,xs,H,n=>(.bor c xs,H,n)
def rY{τ:TS}(L:Nat):Pl->TV τ->TE τ->TH τ->TE τ×TH τ
 | .s i,v,E,H=>(eF L E (some i) v,H)
 | .c r o,v,E,H=>match lkH H r with
  |some (.cells e vs ts)=>(E,H.put r (some (.cells e (setTV vs o [v]) (sS H.q ts o [v]))))
  |_=>(E,H)
def rH{τ:TS}(L:Nat):(l:List (Pl×JL))->JT τ (l.map Prod.snd)->TE τ->TH τ->Nat->TE τ×TH τ×Nat
 |[],_,E,H,n=>(E,H,n)
 |[(p,a)],x,E,H,n=>match cK a x H n with|(v,H1,n1)=>match rY L p v E H1 with|(E2,H2)=>(E2,H2,n1)
 |(p,a)::b::l,x,E,H,n=>match cK a x.1 H n with|(v,H1,n1)=>match rY L p v E H1 with|(E2,H2)=>rH L (b::l) x.2 E2 H2 n1
def iP{τ:TS}(L:Nat)(p:Tm)(x:JT τ (p.lv.map Prod.snd))(E:TE τ)(H:TH τ)(n:Nat):TE τ×TH τ×Nat:=rH L p.lv x ⟨xA L E p.ke,E.q⟩ ⟨tH H (p.kh++p.mh),H.q⟩ n
def cnE(τ:TS1)(L:Nat)(E:TE τ.toTS):List AV:=(List.range L).map λi=>tr τ (lkE E i)
section
variable {τ : TS2} {L n : Nat} {E : TE τ.toTS} {H : TH τ.toTS}
theorem aQj{i:Nat}(h:i<L):(cnE τ.toTS1 L E).getD i .unk=tr τ.toTS1 (lkE E i):=by simp[cnE,x6,h]
theorem wB:(cnE τ.toTS1 L E).length=L:=by simp[cnE]
def InL(L:Nat)(E:TE τ.toTS):Prop:=∀i,L<=i->lkE E i= .v .unk
theorem EOk.cn(hi:InL L E)(hg:∀i,Gd H n (lkE E i))(ht:∀i,tmE E i<E.q):EOk τ.toTS1 L E H n (cnE τ.toTS1 L E):=⟨wB,λi=>(Nat.lt_or_ge i L).elim (λh=> .inr (aQj h)) (λh=> .inl (hi i h)),hg,ht⟩
theorem InL.put{d:Option Nat}{v:TV τ.toTS}(h:InL L E):InL L (eF L E d v):=by
 (cases d with|none=>exact h|some d=>simp only[eF];(cases hb:Nat.blt d L with|true=>have hd:d<L:=(by simpa[Nat.blt_eq]using hb);intro i hi;rw[nO,if_neg (by omega)];exact h i hi|false=>exact h))
structure TOk (τ : TS2) (L : Nat) (E : TE τ.toTS) (H : TH τ.toTS) (n : Nat) : Prop where
 inL:InL L E
 e:EOk τ.toTS1 L E H n (cnE τ.toTS1 L E)
 h:HtOk τ.toTS1 H n (cnH τ.toTS1 H)
theorem TOk.putE{d:Option Nat}{v:TV τ.toTS}(h:TOk τ L E H n)(hv:Gd H n v):TOk τ L (eF L E d v) H n:=by refine⟨h.inL.put,EOk.cn h.inL.put (λi=>?_) (λi=>?_),h.h⟩;{exact(EOk.put (a:=tr τ.toTS1 v) (d:=d) h.e (.inr rfl) hv).good i};{exact(EOk.put (a:=tr τ.toTS1 v) (d:=d) h.e (.inr rfl) hv).tm i}
theorem TOk.row{c:Nat}{xs:List (τ.T c)}(h:TOk τ L E H n):TOk τ L E (H.put n (some (.row c xs))) (n+1)/\Ext H n (H.put n (some (.row c xs))):=by obtain⟨f1,f2⟩:=h.h.fresh (t:= .row c xs) mV;exact⟨⟨h.inL,h.e.ext (by omega) f2,f1⟩,f2⟩
theorem TOk.cell{r o:Nat}{e:TypeId}{vs:List (TV τ.toTS)}{ts:List Nat}{v:TV τ.toTS}(h:TOk τ L E H n)(hr:lkH H r=some (.cells e vs ts))(hv:Gd H n v):TOk τ L E (H.put r (some (.cells e (setTV vs o [v]) (sS H.q ts o [v])))) n:=by have hc:=h.h.cells _ _ _ _ hr;obtain⟨f1,f2⟩:=h.h.cellsTurn (us2:=sS H.q ts o [v]) hr (Gds.setTV (o:=o) (us:=[v]) hc.1 (by simp only[Gds];exact⟨hv,trivial⟩)) (by rw[aEs,setTV_len];exact hc.2);exact⟨h.inL,h.e.ext (k9 n) f2,f1⟩
theorem aMx:∀(ls:List Nat) (i:Nat),dU (xA L E ls) i=(0,.v .unk)\/(dU (xA L E ls) i=(tmE E i,lkE E i)/\i<L/\i∈ls)
 |[],i=> .inl rfl
 |j::ls,i=>by simp only[xA,List.filterMap_cons];(cases hb:Nat.blt j L with|true=>have hj:j<L:=(by simpa[Nat.blt_eq]using hb);simp only[dU];(cases hc:f9 j i with|true=>have:=w6 hc;subst this;exact .inr ⟨rfl,hj,by simp⟩|false=>exact(aMx ls i).imp id λh=>⟨h.1,h.2.1,m8 _ h.2.2⟩)|false=>exact(aMx ls i).imp id λh=>⟨h.1,h.2.1,m8 _ h.2.2⟩)
theorem aCd:∀(ls:List Nat) (i:Nat),lF (tH H ls) i=(0,none)\/(lF (tH H ls) i=(tmH H i,lkH H i)/\i∈ls)
 |[],i=> .inl rfl
 |j::ls,i=>by simp only[tH,m5,lF];(cases hc:f9 j i with|true=>have:=w6 hc;subst this;exact .inr ⟨rfl,by simp⟩|false=>exact(aCd ls i).imp id λh=>⟨h.1,m8 _ h.2⟩)
theorem TOk.sel{env:List AV}{Hp:Heap}{ke kh:List Nat}(he:EOk τ.toTS1 L E H n env)(hh:HtOk τ.toTS1 H n Hp)(hq:0<E.q)(hr:0<H.q):TOk τ L ⟨xA L E ke,E.q⟩ ⟨tH H kh,H.q⟩ n/\FxE E ⟨xA L E ke,E.q⟩/\FxH H ⟨tH H kh,H.q⟩:=by
 have hE:∀i,(lkE (⟨xA L E ke,E.q⟩:TE τ.toTS) i= .v .unk/\tmE (⟨xA L E ke,E.q⟩:TE τ.toTS) i=0)\/(lkE (⟨xA L E ke,E.q⟩:TE τ.toTS) i=lkE E i/\tmE (⟨xA L E ke,E.q⟩:TE τ.toTS) i=tmE E i/\i<L):=λi=>by rcases aMx (L:=L) (E:=E) ke i with h|⟨h,h2,_⟩;{left;simp only[lkE,tmE,h];exact⟨trivial,trivial⟩};{right;simp only[lkE,tmE]at h ⊢;rw[h];exact⟨rfl,rfl,h2⟩}
 have hH:∀i,(lkH (⟨tH H kh,H.q⟩:TH τ.toTS) i=none/\tmH (⟨tH H kh,H.q⟩:TH τ.toTS) i=0)\/(lkH (⟨tH H kh,H.q⟩:TH τ.toTS) i=lkH H i/\tmH (⟨tH H kh,H.q⟩:TH τ.toTS) i=tmH H i):=λi=>by rcases aCd (H:=H) kh i with h|⟨h,_⟩;{left;simp only[lkH,tmH,h];exact⟨trivial,trivial⟩};{right;simp only[lkH,tmH]at h ⊢;rw[h];exact⟨rfl,rfl⟩}
 have hx:Ext H n (⟨tH H kh,H.q⟩:TH τ.toTS):=λr _=>by rcases hH r with h|h;{rw[h.1];exact Ex1.none};{rw[h.1];exact Ex1.refl}
 have hi:InL L (⟨xA L E ke,E.q⟩:TE τ.toTS):=λi hi=>by rcases hE i with h|h;{exact h.1};{omega}
 refine⟨⟨hi,EOk.cn hi (λi=>?_) (λi=>?_),⟨dV,λr t hl=>?_,λr hl=>?_,λr=>?_⟩⟩,⟨k9 _,λi h0 _=>?_⟩,⟨k9 _,λi h0 _=>?_,λr e vs ts o hl _ _=>?_⟩⟩;{rcases hE i with h|h;{rw[h.1];simp only[Gd,plainV]};{rw[h.1];exact(he.good i).ext (k9 n) hx}};{rcases hE i with h|h;{rw[h.2];exact hq};{rw[h.2.1];exact he.tm i}};{rcases hH r with h|h;{rw[h.1]at hl;cases hl};{rw[h.1]at hl;have:=hh.all _ _ hl;exact⟨Gds.ext (k9 n) hx this.1,this.2⟩}};{rcases hH r with h|h;{exact h.1};{rw[h.1];exact hh.low r hl}};{rcases hH r with h|h;{rw[h.2];exact hr};{rw[h.2];exact hh.tm r}};{rcases hE i with h|h;{exact absurd h.2 h0};{exact⟨h.1,h.2.1⟩}};{rcases hH i with h|h;{exact absurd h.2 h0};{exact h}};{rcases hH r with h|h;{rw[h.1]at hl;cases hl};{rw[h.1]at hl;exact⟨vs,ts,hl,rfl,rfl,rfl⟩}}
def jlB(τ:TS):JL->Bool
 | .rb c=>τ.pl c
 |_=>true
theorem bJm{a:JL}{x:a.T τ.toTS}(hj:jlB τ.toTS a=true)(h:TOk τ L E H n):TOk τ L E (cK a x H n).2.1 (cK a x H n).2.2/\Gd (cK a x H n).2.1 (cK a x H n).2.2 (cK a x H n).1/\n<=(cK a x H n).2.2/\FxH H (cK a x H n).2.1:=by
 (cases a with|i k=>exact⟨h,by simp only[cK,Gd,plainV],k9 n,FxH.refl⟩|b=>exact⟨h,by simp only[cK,Gd,plainV],k9 n,FxH.refl⟩|rb c=>exact⟨h,by simp only[cK,Gd];exact hj,k9 n,FxH.refl⟩|ro c=>refine⟨(h.row (xs:=x)).1,?_,l9 n,FxH.putRow⟩;simp only[cK,Gd];exact⟨by omega,RowLen.put⟩)
theorem bJj{p:Pl}{v:TV τ.toTS}(h:TOk τ L E H n)(hv:Gd H n v):TOk τ L (rY L p v E H).1 (rY L p v E H).2 n/\FxE E (rY L p v E H).1/\FxH H (rY L p v E H).2:=by
 (cases p with|s i=>exact⟨h.putE (d:=some i) hv,vR (L:=L) (d:=some i) (v:=v),FxH.refl⟩|c r o=>simp only[rY];split;{rename_i e vs ts hr;have hc:=h.h.cells _ _ _ _ hr;refine⟨h.cell hr hv,FxE.refl,FxH.put λe' vs' ts' j q h0 h1=>?_⟩;cases q;rcases aHm (q:=H.q) (j:=j) (us:=[v]) (o:=o) hc.2 with k|⟨k1,k2⟩;{omega};{exact⟨vs,ts,hr,setTV_len.symm,k2.symm,k1.symm⟩}};{exact⟨h,FxE.refl,FxH.refl⟩})
theorem bJk:∀(l:List (Pl×JL)) (x:JT τ.toTS (l.map Prod.snd)) {E:TE τ.toTS} {H:TH τ.toTS} {n:Nat},l.all (λq=>jlB τ.toTS q.2)=true->TOk τ L E H n->
 TOk τ L (rH L l x E H n).1 (rH L l x E H n).2.1 (rH L l x E H n).2.2/\n<=(rH L l x E H n).2.2/\FxE E (rH L l x E H n).1/\FxH H (rH L l x E H n).2.1
 |[],_,E,H,n,_,h=>⟨h,k9 n,FxE.refl,FxH.refl⟩
 |[(p,a)],x,E,H,n,hj,h=>by simp only[y4,o4,e9]at hj;obtain⟨a1,a2,a3,a4⟩:=bJm (a:=a) (x:=x) hj h;obtain⟨b1,b2,b3⟩:=bJj (p:=p) a1 a2;exact⟨b1,a3,b2,a4.trans b3⟩
 |(p,a)::b::l,x,E,H,n,hj,h=>by rw[y4,x5]at hj;obtain⟨a1,a2,a3,a4⟩:=bJm (a:=a) (x:=x.1) hj.1 h;obtain⟨b1,b2,b3⟩:=bJj (p:=p) a1 a2;obtain⟨c1,c2,c3,c4⟩:=bJk (b::l) x.2 hj.2 b1;exact⟨c1,qQQ a3 c2,b2.trans c3,(a4.trans b3).trans c4⟩
end
def rX{τ:TS}(E:TE τ)(H:TH τ):Pl->TV τ
 | .s i=>lkE E i
 | .c r o=>match lkH H r with
  |some (.cells _ vs _)=>vs.getD o (.v .unk)
  |_=> .v .unk
def rdJ{τ:TS}(H:TH τ):(a:JL)->TV τ->Option (a.T τ×List (Option Nat))
 | .i k,.v (.int k' z)=>gb (decide (k'=k)) (some (z,[]))
 | .b,.v (.bool t)=>some (t,[])
 | .rb c,.bor c' xs=>if h:c'=c then some (h▸xs,[])else none
 | .rb _,.v .nil=>some ([],[])
 | .rb _,.v .emp=>some ([],[])
 | .ro c,.ws r _ _=>match lkH H r with
  |some (.row c' xs)=>if h:c'=c then some (h▸xs,[some r])else none
  |_=>none
 | .ro _,.v .nil=>some ([],[none])
 | .ro _,.v .emp=>some ([],[none])
 |_,_=>none
def rdL{τ:TS}(E:TE τ)(H:TH τ):(l:List (Pl×JL))->Option (JT τ (l.map Prod.snd)×List (Option Nat))
 |[]=>some ((),[])
 |[(p,a)]=>rdJ H a (rX E H p)
 |(p,a)::b::l=>match rdJ H a (rX E H p)with
  |some (x,rs)=>match rdL E H (b::l)with
   |some (y,us)=>some ((x,y),rs++us)
   |none=>none
  |none=>none
def Pl.off:Pl->List (Nat×Nat)
 | .s _=>[]
 | .c r o=>[(r,o)]
def Tm.offs(p:Tm):List (Nat×Nat):=p.lv.flatMap λq=>q.1.off
def aZq{τ:TS}(q0:Nat)(offs:List (Nat×Nat))(r:Nat):Option (TR τ)->Option (TR τ)->Bool
 |some (.cells e vs ts),some (.cells e' vs' ts')=>decide (e'=e)&&f9 vs'.length vs.length&&(List.range vs.length).all λo=>offs.any (λq=>f9 q.1 r&&f9 q.2 o)||(f9 (ts'.getD o 0) (ts.getD o 0)&&Nat.blt 0 (ts.getD o 0)&&Nat.blt (ts.getD o 0) q0)
 |_,_=>false
def aGl(ks:List Nat)(rs:List (Option Nat)):Bool:=dH rs&&rs.all λ|none=>true|some r=>!(ks.any (f9 r))
def knT{τ:TS}:TR τ->Bool
 | .cells _ _ _=>true
 | .row _ _=>true
 |_=>false
def Tm.okB{τ:TS}(p:Tm)(E:TE τ)(H:TH τ)(E':TE τ)(H':TH τ):Bool:=Nat.blt 0 E.q&&Nat.blt 0 H.q&&p.ke.all (λi=>f9 (tmE E' i) (tmE E i)&&Nat.blt 0 (tmE E i))&&p.kh.all (λi=>f9 (tmH H' i) (tmH H i)&&Nat.blt 0 (tmH H i)&&(match lkH H i with|some t=>knT t|none=>true))&&p.mh.all (λr=>aZq H.q p.offs r (lkH H r) (lkH H' r))
def pk{τ:TS}(p:Tm)(E:TE τ)(H:TH τ)(E':TE τ)(H':TH τ):Option (JT τ (p.lv.map Prod.snd)):=
 gb (p.okB E H E' H') (match rdL E' H' p.lv with
  |some (x,rs)=>gb (aGl (p.kh++p.mh) rs) (some x)
  |none=>none)
def rS(n:Nat)(rs:List (Option Nat))(i:Nat):Option Nat:=if i<n then some i else rs.getD (i-n) none
section
variable {τ : TS2} {L n n2 : Nat} {E E' : TE τ.toTS} {H H' : TH τ.toTS} {ρ : Nat → Option Nat} {env' : List AV} {Hp' : Heap}
mutual
theorem Gd.ren(hn:n<=n2)(hρ:∀i,i<n->ρ i=some i):∀{v:TV τ.toTS},Gd H n v->Ren ρ n2 (tr τ.toTS1 v) (tr τ.toTS1 v)
 | .v x,h=>by simp only[Gd]at h;simp only[tr];cases x<;>simp only[plainV]at h<;>first|(simp only[Ren];done)|(simp[Ren];done)|(simp only[Ren];exact⟨by omega,_,hρ _ h.1,rfl⟩)
 | .ws r c k,h=>by simp only[Gd]at h;simp only[tr];exact aGx (by omega) (hρ r h.1)
 | .part r c i k,h=>by simp only[Gd]at h;simp only[tr];exact aGx (by omega) (hρ r h.1)
 | .elt r c i o,h=>by simp only[Gd]at h;simp only[tr];exact aNe (by omega) (hρ r h.1)
 | .bor c xs,_=>by simp only[tr];exact bS (aL (aC (τ.nr c)))
 | .bel c xs i o,_=>by simp only[tr,Ren];exact⟨_,rfl,aL (aC (τ.nr c))⟩
 | .agg vs,h=>by simp only[Gd]at h;simp only[tr];exact oS (Gds.ren hn hρ h)
 | .tup vs,h=>by simp only[Gd]at h;simp only[tr];exact fX (Gds.ren hn hρ h)
 | .bl _ _ vs,h=>by simp only[Gd]at h;simp only[tr];exact bS (Gds.ren hn hρ h)
 | .x (.ow _ _),h=>by simp only[Gd,GdN]at h
 | .x (.nws r _ _ _ _ _),h=>by simp only[Gd,GdN]at h;simp only[tr,trN];exact aGx (by omega) (hρ r h.1)
 | .x (.nelt r _ _ _ _ _ _),h=>by simp only[Gd,GdN]at h;simp only[tr,trN];exact aNe (by omega) (hρ r h.1)
 | .x (.wc r _ _),h=>by simp only[Gd,GdN]at h;simp only[tr,trN];exact aGx (by omega) (hρ r h)
theorem Gds.ren(hn:n<=n2)(hρ:∀i,i<n->ρ i=some i):∀{vs:List (TV τ.toTS)},Gds H n vs->Rens ρ n2 (trs τ.toTS1 vs) (trs τ.toTS1 vs)
 |[],_=>by simp only[trs];exact iA
 |v::vs,h=>by simp only[Gds]at h;simp only[trs];exact aW (Gd.ren hn hρ h.1) (Gds.ren hn hρ h.2)
end
structure Sm (τ : TS2) (ρ : Nat → Option Nat) (n2 : Nat) (pd : List (Nat × Nat)) (E2 : TE τ.toTS) (H2 : TH τ.toTS) (env' : List AV) (H' : TH τ.toTS) : Prop where
 e:∀i,lkE E2 i= .v .unk\/Ren ρ n2 (tr τ.toTS1 (lkE E2 i)) (env'.getD i .unk)
 row:∀r c xs,lkH H2 r=some (.row c xs)->r<n2/\((ρ r=none/\xs=[])\/∃j,ρ r=some j/\lkH H' j=some (.row c xs))
 kn:∀r t,lkH H2 r=some t->knT t=true
 cell:∀r e vs ts,lkH H2 r=some (.cells e vs ts)->r<n2/\ρ r=some r/\∃vs' ts',lkH H' r=some (.cells e vs' ts')/\vs'.length=vs.length/\∀o,o<vs.length->(r,o)∈pd\/Ren ρ n2 (tr τ.toTS1 (vs.getD o (.v .unk))) (tr τ.toTS1 (vs'.getD o (.v .unk)))
theorem Sm.ent{m n':Nat}{E2:TE τ.toTS}{H2:TH τ.toTS}(h:Sm τ ρ n2 [] E2 H2 env' H')(hh:HtOk τ.toTS1 H' n' Hp')(hl:env'.length=L)(hm:∀i,i<m->ρ i=some i)(h2:m<=n2)(hinj:∀r r' j,(lkH H2 r).isSome=true->(lkH H2 r').isSome=true->ρ r=some j->ρ r'=some j->r=r'):
 Ent m (cnE τ.toTS1 L E2) (cnH τ.toTS1 H2) n2 env' Hp' n':=by
 refine Ent.sub ρ hm h2 (Rens.of_get (by rw[wB,hl]) λt ht=>?_) ⟨λr t2 hr=>?_,λr r' j h1 h2=>hinj r r' j ?_ ?_⟩;{rw[wB]at ht;rw[aQj ht];rcases h.e t with e|e;{rw[e];simp only[tr];exact bWy};{exact e}};{rw[dV]at hr;(cases ht:lkH H2 r with|none=>rw[ht]at hr;cases hr|some t=>rw[ht]at hr;cases hr;(cases t with|row c xs=>obtain⟨k1,k2⟩:=h.row r c xs ht;refine⟨k1,k2.imp (λ⟨a,b⟩=>⟨a,by subst b;rfl⟩) λ⟨j,a,b⟩=>⟨j,trR τ.toTS1 (.row c xs),a,by rw[hh.heap,b];rfl,rfl,?_⟩⟩;simp only[trR];exact aL (aC (τ.nr c))|cells e vs ts=>obtain⟨k1,k2,vs',ts',k3,k4,k5⟩:=h.cell r e vs ts ht;refine⟨k1,.inr ⟨r,trR τ.toTS1 (.cells e vs' ts'),k2,by rw[hh.heap,k3];rfl,rfl,?_⟩⟩;simp only[trR];refine Rens.of_get (by rw[cC,cC,k4]) λo ho=>?_;rw[cC]at ho;rw[pE ho,pE (by omega)];exact(k5 o ho).resolve_left (λhx=>by cases hx)|pst _ _ _ _ _=>exact absurd (h.kn _ _ ht) (by simp[knT])|pap _ _ _ _=>exact absurd (h.kn _ _ ht) (by simp[knT])|pmk _ _ _=>exact absurd (h.kn _ _ ht) (by simp[knT])|hol _ _ _=>exact absurd (h.kn _ _ ht) (by simp[knT])))};{rw[dV]at h1;cases e:lkH H2 r<;>rw[e]at h1<;>first|(cases h1;done)|rfl};{rw[dV]at h2;cases e:lkH H2 r'<;>rw[e]at h2<;>first|(cases h2;done)|rfl}
end
section
variable {τ : TS2} {L n n2 n' : Nat} {E E' : TE τ.toTS} {H H' : TH τ.toTS} {ρ : Nat → Option Nat} {env' : List AV} {Hp' : Heap}
theorem cCc{a:JL}{u:TV τ.toTS}{x:a.T τ.toTS}{rs:List (Option Nat)}(h:rdJ H' a u=some (x,rs))(hg:Gd H' n' u)(hρ:∀k,k<rs.length->ρ (n+k)=rs.getD k none)(hn:n+rs.length<=n2):
 (cK a x H n).2.2=n+rs.length/\Ren ρ n2 (tr τ.toTS1 (cK a x H n).1) (tr τ.toTS1 u)/\u≠ .v .unk/\
 ((cK a x H n).2.1=H\/∃c xs,(cK a x H n).2.1=H.put n (some (.row c xs))/\n<n2/\((ρ n=none/\xs=[])\/∃j,ρ n=some j/\lkH H' j=some (.row c xs))):=by
 unfold rdJ at h;split at h;{obtain⟨hb,h⟩:=aF h;cases h;have:=of_decide_eq_true hb;subst this;exact⟨rfl,by simp only[cK,tr];exact aGy,(λe=>by cases e),.inl rfl⟩};{cases h;exact⟨rfl,by simp only[cK,tr];exact aIc,(λe=>by cases e),.inl rfl⟩};{split at h;{rename_i e;subst e;cases h;exact⟨rfl,by simp only[cK,tr];exact bS (aL (aC (τ.nr _))),(λe=>by cases e),.inl rfl⟩};{cases h}};{cases h;exact⟨rfl,by simp only[cK,tr];exact aIw,(λe=>by cases e),.inl rfl⟩};{cases h;exact⟨rfl,by simp only[cK,tr];exact bUc,(λe=>by cases e),.inl rfl⟩};{rename_i c r0 c0 k0;split at h;{rename_i c' ys hr;split at h;{rename_i e;subst e;cases h;simp only[Gd]at hg;obtain⟨e1,e2⟩:=hg.2.row hr;subst e1;simp only[qJQ]at hn hρ;have h0:=hρ 0 (by omega);simp only[qZU,qQW]at h0;exact⟨rfl,by simp only[cK,tr];exact bCp (by omega) h0 e2.symm,(λe=>by cases e),.inr ⟨_,_,rfl,by omega,.inr ⟨r0,h0,hr⟩⟩⟩};{cases h}};{cases h}};{rename_i c;cases h;simp only[qJQ]at hn hρ;have h0:=hρ 0 (by omega);simp only[qZU,qQW]at h0;exact⟨rfl,by simp only[cK,tr];exact bAj (by omega) h0 rfl,(λe=>by cases e),.inr ⟨_,_,rfl,by omega,.inl ⟨h0,rfl⟩⟩⟩};{rename_i c;cases h;simp only[qJQ]at hn hρ;have h0:=hρ 0 (by omega);simp only[qZU,qQW]at h0;exact⟨rfl,by simp only[cK,tr];exact bNz (by omega) h0 rfl,(λe=>by cases e),.inr ⟨_,_,rfl,by omega,.inl ⟨h0,rfl⟩⟩⟩};{cases h}
theorem aWf(he:EOk τ.toTS1 L E' H' n' env')(hh:HtOk τ.toTS1 H' n' Hp')(p:Pl):Gd H' n' (rX E' H' p):=by
 (cases p with|s i=>exact he.good i|c r o=>simp only[rX];split;{rename_i e vs ts hr;exact(hh.cells _ _ _ _ hr).1.getD};{simp only[Gd,plainV]})
theorem Sm.mono{pd pd':List (Nat×Nat)}(h:Sm τ ρ n2 pd E H env' H')(hs:∀q,q∈pd->q∈pd'):Sm τ ρ n2 pd' E H env' H':=⟨h.e,h.row,h.kn,λr e vs ts hr=>by obtain⟨a,b,vs',ts',c,d,f⟩:=h.cell r e vs ts hr;exact⟨a,b,vs',ts',c,d,λo ho=>(f o ho).imp (hs _) id⟩⟩
theorem Sm.leaf {p:Pl} {a:JL} {x:a.T τ.toTS} {rs:List (Option Nat)} {pd:List (Nat×Nat)} (h:Sm τ ρ n2 (p.off++pd) E H env' H') (hr:rdJ H' a (rX E' H' p)=some (x,rs)) (he:EOk τ.toTS1 L E' H' n' env') (hh:HtOk τ.toTS1 H' n' Hp')
 (hρ:∀k,k<rs.length->ρ (n+k)=rs.getD k none) (hn:n+rs.length<=n2):
 (cK a x H n).2.2=n+rs.length/\Sm τ ρ n2 pd (rY L p (cK a x H n).1 E (cK a x H n).2.1).1 (rY L p (cK a x H n).1 E (cK a x H n).2.1).2 env' H':=by
 obtain⟨h1,h2,h3,h4⟩:=cCc (H:=H) (n:=n) hr (aWf he hh p) hρ hn;refine⟨h1,?_⟩;generalize(cK a x H n).1=v at h2 ⊢;generalize hH1:(cK a x H n).2.1=H1 at h4 ⊢;have hs:Sm τ ρ n2 (p.off++pd) E H1 env' H':=(by rcases h4 with e|⟨c,xs,e,k1,k2⟩;{subst e;exact h};{subst e;refine⟨h.e,λr c' ys hl=>?_,λr t hl=>(by rw[aM]at hl;split at hl<;>first|(cases hl;rfl)|exact h.kn r t hl),λr e vs ts hl=>?_⟩;{rw[aM]at hl;split at hl;{rename_i e;subst e;cases hl;exact⟨k1,k2⟩};{exact h.row r c' ys hl}};{rw[aM]at hl;split at hl;{cases hl};{exact h.cell r e vs ts hl}}});(cases p with|s i=>simp only[rY];have hs:Sm τ ρ n2 pd E H1 env' H':=hs;have ea:env'.getD i .unk=tr τ.toTS1 (lkE E' i):=(he.env i).resolve_left h3;refine⟨λj=>?_,hs.row,hs.kn,hs.cell⟩;simp only[eF];split;{rw[nO];split;{rename_i e;subst e;rw[ea];exact .inr h2};{exact hs.e j}};{exact hs.e j}|c r o=>simp only[rY];split;{rename_i e vs ts hl;obtain⟨k1,k2,vs',ts',k3,k4,k5⟩:=hs.cell r e vs ts hl;refine⟨hs.e,λq c' ys hq=>?_,λr t hl=>(by rw[aM]at hl;split at hl<;>first|(cases hl;rfl)|exact hs.kn r t hl),λq e' ws us hq=>?_⟩;{rw[aM]at hq;split at hq;{cases hq};{exact hs.row q c' ys hq}};{rw[aM]at hq;split at hq;{rename_i eq;subst eq;cases hq;refine⟨k1,k2,vs',ts',k3,by rw[setTV_len];exact k4,λj hj=>?_⟩;rw[setTV_len]at hj;by_cases ej:j=o;{subst ej;right;have eu:rX E' H' (.c r j)=vs'.getD j (.v .unk):=(by simp only[rX,k3]);rw[eu]at h2;simp only[setTV];rw[x6 (l:=vs.set j v),qXH hj];exact h2};{simp only[setTV];rw[x6 (l:=vs.set o v),List.getElem?_set_ne (λe=>ej e.symm),<-x6];refine(k5 j hj).imp (λhx=>?_) id;simp only[Pl.off,n7,r6,g8,Prod.mk.injEq]at hx;exact hx.resolve_left λe=>ej e.2}};{obtain⟨a1,a2,us',ts2,a3,a4,a5⟩:=hs.cell q e' ws us hq;rename_i hne;refine⟨a1,a2,us',ts2,a3,a4,λj hj=>(a5 j hj).imp (λhx=>?_) id⟩;simp only[Pl.off,n7,r6,g8,Prod.mk.injEq]at hx;exact hx.resolve_left λe=>hne e.1.symm}}};{rename_i hno;refine⟨hs.e,hs.row,hs.kn,λq e' ws us hq=>?_⟩;obtain⟨a1,a2,us',ts2,a3,a4,a5⟩:=hs.cell q e' ws us hq;refine⟨a1,a2,us',ts2,a3,a4,λj hj=>(a5 j hj).imp (λhx=>?_) id⟩;simp only[Pl.off,n7,r6,g8,Prod.mk.injEq]at hx;refine hx.resolve_left λe=>?_;have:=e.1;subst this;exact hno _ _ _ hq})
theorem Sm.leaves(he:EOk τ.toTS1 L E' H' n' env')(hh:HtOk τ.toTS1 H' n' Hp'):∀(l:List (Pl×JL)) (x:JT τ.toTS (l.map Prod.snd)) (rs:List (Option Nat)) {E:TE τ.toTS} {H:TH τ.toTS} {n:Nat},rdL E' H' l=some (x,rs)->Sm τ ρ n2 (l.flatMap λq=>q.1.off) E H env' H'->
 (∀k,k<rs.length->ρ (n+k)=rs.getD k none)->n+rs.length<=n2->(rH L l x E H n).2.2=n+rs.length/\Sm τ ρ n2 [] (rH L l x E H n).1 (rH L l x E H n).2.1 env' H'
 |[],x,rs,E,H,n,hr,h,hρ,hn=>by simp only[rdL]at hr;cases hr;exact⟨rfl,h⟩
 |[(p,a)],x,rs,E,H,n,hr,h,hρ,hn=>by simp only[rdL]at hr;exact Sm.leaf (pd:=[]) (by simpa using h) hr he hh hρ hn
 |(p,a)::b::l,x,rs,E,H,n,hr,h,hρ,hn=>by simp only[rdL]at hr;split at hr;{rename_i y ys hy;split at hr;{rename_i z zs hz;cases hr;rw[y5]at hn;obtain⟨a1,a2⟩:=Sm.leaf (x:=y) (pd:=(b::l).flatMap λq=>q.1.off) (by simpa using h) hy he hh (λk hk=>by rw[hρ k (by rw[y5];omega)];simp only[x6];rw[e7 hk]) (by omega);obtain⟨b1,b2⟩:=Sm.leaves (n:=(cK a y H n).2.2) he hh (b::l) z zs hz a2 (λk hk=>by rw[a1,m4,hρ (ys.length+k) (by rw[y5];omega)];simp only[x6];rw[d9 (by omega)];congr 2;omega) (by rw[a1];omega);refine⟨?_,b2⟩;rw[y5,<-m4,<-a1];exact b1};{cases hr}};{cases hr}
end
end Go.Proofs.YtcgggihjcelmhaaGreat
