/- The machine in which the program is read. No program is named here. -/
import Derived.Test.YtcgggihjcelmhaaGreatZL2
import Derived.KernelRfl
import Derived.Test.YtcgggihjcelmhaaGreatZJ
namespace Go.Proofs.YtcgggihjcelmhaaGreat
open Bool renaming and_eq_true → x5, not_eq_true' → u0, or_eq_true → r9
open List renaming getD_eq_getElem?_getD → x6, getD → x8, replicate → j0, all_eq_true → w5, length_append → y5, length_cons → y7, getElem?_eq_getElem → y9, getElem?_append_right → d9, getElem?_append_left → e7, mem_range → f8, mem_cons → g8, length_replicate → l6, map_cons → m5, length_eq_zero_iff → m6, length_take → m7, cons_append → n7, getElem?_eq_some_iff → n9, take → o5, getElem?_set → o9, length_drop → p8, nil_append → r6, getD_cons_succ → r7, append_nil → r8, length_set → t7, getElem?_drop → t9, take_of_length_le → qQX, getElem?_take → qQJ, drop → qQK, getD_cons_zero → qQW, eq_nil_or_concat → qZV, concat_eq_append → qZY, ext_getElem? → qXW, contains_eq_mem → qJX
open Nat renaming le_refl → k9, lt_succ_self → y8, beq → f9, le_succ → l9, add_assoc → m4, zero_le → m9, lt_of_lt_of_le → o7, zero_add → p9, le_trans → qQQ, mul_le_mul_right → qQZ, ble_eq → qQV, add_mul → qZQ, ble → qZH, beq_eq → qJZ
open Option renaming some → w7, map_eq_some_iff → w9, isSome_iff_exists → y3
set_option linter.all false
open Go.RowKit
structure Hld (p : Prop) : Prop where
 un:p
def grd(c:Prop)[Decidable c]{α:Type}(x:Option α):Option α:=if c then x else none
theorem bD{c:Prop}[Decidable c]{α:Type}{x:Option α}{r:α}(h:grd c x=some r):c/\x=some r:=by unfold grd at h;split at h;{rename_i hc;exact⟨hc,h⟩};{cases h}
theorem aB{c:Prop}[Decidable c]{α:Type}{x:Option α}(h:c):grd c x=x:=if_pos h
theorem oW{α:Type}{b:Bool}{x y:Option α}{r:α}(h:cond b x y=some r):(b=true/\x=some r)\/(b=false/\y=some r):=by cases b;{exact .inr ⟨rfl,h⟩};{exact .inl ⟨rfl,h⟩}
theorem bind_some{α β:Type}{x:Option α}{k:α->Option β}{r:β}(h:x.bind k=some r):∃v,x=some v/\k v=some r:=by
 (cases x with|none=>cases h|some v=>exact⟨v,rfl,h⟩)
theorem cI{α:Type}{x r:α}(h:some x=some r):r=x:=(w7.inj h).symm
inductive LO (S R : Type) where
 |next (s:S)
 |brk (s:S)
 |ret (r:R)
inductive JO (S R : Type) where
 |go (s:S)
 |out (r:R)
def JO.run{S R:Type}(j:JO S R)(k:S->Option R):Option R:=match j with
 | .go s=>k s
 | .out r=>some r
def LO.val{S R:Type}(j:LO S R):Option R:=match j with
 | .ret r=>some r
 |_=>none
section
variable {S R : Type}
def eU(step:S->Option (LO S R)):Nat->S->Option (LO S R)
 |0,_=>none
 |n+1,s=>match step s with
  |some (.next s')=>eU step n s'
  |some (.brk s')=>some (.brk s')
  |some (.ret r)=>some (.ret r)
  |none=>none
theorem aSn{step:S->Option (LO S R)}:∀{n:Nat} {s:S} {o:LO S R},eU step n s=some o->eU step (n+1) s=some o
 |0,_,_,h=>by simp[eU]at h
 |n+1,s,o,h=>by rw[eU]at h ⊢;(cases e:step s with|none=>rw[e]at h;cases h|some x=>rw[e]at h;(cases x with|next s'=>exact aSn h|brk s'=>exact h|ret r=>exact h))
theorem bCv{step:S->Option (LO S R)}{n m:Nat}{s:S}{o:LO S R}(h:eU step n s=some o)(hm:n<=m):eU step m s=some o:=by
 induction hm with
 |refl=>exact h
 |step _ ih=>exact aSn ih
theorem bOb{step:S->Option (LO S R)}{n m:Nat}{s:S}{o o':LO S R}(h:eU step n s=some o)(h':eU step m s=some o'):o=o':=by have h1:=bCv h (Nat.le_max_left n m);have h2:=bCv h' (Nat.le_max_right n m);rw[h1]at h2;exact w7.inj h2
noncomputable def iter (step:S->Option (LO S R))(s:S):Option (LO S R):=open Classical in if h:∃o n,eU step n s=some o then some (Classical.choose h)else none
theorem bIc{step:S->Option (LO S R)}{n:Nat}{s:S}{o:LO S R}(h:eU step n s=some o):iter step s=some o:=by have he:∃o n,eU step n s=some o:=⟨o,n,h⟩;unfold iter;rw[dif_pos he];obtain⟨m,hm⟩:=Classical.choose_spec he;rw[bOb hm h]
theorem aKf{step:S->Option (LO S R)}{s:S}{o:LO S R}(h:iter step s=some o):∃n,eU step n s=some o:=by unfold iter at h;split at h;{rename_i he;obtain⟨m,hm⟩:=Classical.choose_spec he;exact⟨m,by rw[hm,<-h]⟩};{cases h}
theorem cR{step:S->Option (LO S R)}{s:S}:iter step s=match step s with
 |some (.next s')=>iter step s'
 |some (.brk s')=>some (.brk s')
 |some (.ret r)=>some (.ret r)
 |none=>none:=by
 cases e:iter step s with
 |some o=>obtain⟨n,hn⟩:=aKf e;(cases n with|zero=>simp[eU]at hn|succ n=>rw[eU]at hn;(cases e2:step s with|none=>rw[e2]at hn;cases hn|some x=>rw[e2]at hn;(cases x with|next s'=>exact(bIc hn).symm|brk s'=>exact hn.symm|ret r=>exact hn.symm)))
 |none=>
  have no:∀n o,eU step n s≠some o:=λn o h=>by rw[bIc h]at e;cases e
  (cases e2:step s with|none=>rfl|some x=>(cases x with|next s'=>show none=iter step s';(cases e3:iter step s' with|none=>rfl|some o=>obtain⟨n,hn⟩:=aKf e3;exact absurd (show eU step (n+1) s=some o by rw[eU,e2];exact hn) (no _ _))|brk s'=>exact absurd (show eU step 1 s=some (.brk s') by rw[eU,e2]) (no _ _)|ret r=>exact absurd (show eU step 1 s=some (.ret r) by rw[eU,e2]) (no _ _)))
theorem bMu{step:S->Option (LO S R)}{n:Nat}{s:S}{o:LO S R}(h:eU step n s=some o):
 ∃x,step s=some x/\match x with| .next s'=>∃k,k<n/\eU step k s'=some o| .brk s'=>o= .brk s'| .ret r=>o= .ret r:=by
 (cases n with|zero=>simp[eU]at h|succ n=>rw[eU]at h;(cases e2:step s with|none=>rw[e2]at h;cases h|some x=>refine⟨x,rfl,?_⟩;rw[e2]at h;(cases x with|next s'=>exact⟨n,y8 n,h⟩|brk s'=>exact(w7.inj h).symm|ret r=>exact(w7.inj h).symm)))
end
def uW:Nat->Nat->List (Nat×AV)->List AV
 |_,0,_=>[]
 |i,n+1,[]=> .unk::uW (i+1) n []
 |i,n+1,(j,v)::l=>match f9 i j with
  |true=>v::uW (i+1) n l
  |false=> .unk::uW (i+1) n ((j,v)::l)
def sp(n:Nat)(l:List (Nat×AV)):List AV:=uW 0 n l
def Heap.norm(rs:List Nat)(H:Heap):Heap:=rs.map λr=>(r,H.get1 r)
theorem aYp{H:Heap}{r:Nat}{t:Root}:∀{rs:List Nat},(H.norm rs).get1 r=some t->H.get1 r=some t
 |[],h=>by simp[Heap.norm,Heap.get1]at h
 |r'::rs,h=>by simp only[Heap.norm,m5,Heap.get1]at h;split at h;{rename_i e;subst e;exact h};{exact aYp h}
theorem aZz{H:Heap}{rs:List Nat}{r:Nat}:∀{π:List Nat} {t:Root},(H.norm rs).get r π=some t->H.get r π=some t
 |[],_,h=>aYp h
 |i::π,t,h=>by simp only[Heap.get]at h ⊢;split at h;{rename_i tp htp;rw[aZz htp];exact h};{cases h}
theorem RH.less{Φ:Fz}{n:Nat}{β:Spots}{H H2:Heap}{w:World}(h:RH Φ n β H w)(hg:∀r π t,H2.get r π=some t->H.get r π=some t):RH Φ n β H2 w:=by refine⟨λr π t hr=>h.root r π t (hg r π t hr),λr π r' π' h1 h2 hx hx' he=>?_⟩;obtain⟨t,ht⟩:=y3.1 h1;obtain⟨t',ht'⟩:=y3.1 h2;exact h.apart r π r' π' (by simp[hg _ _ _ ht]) (by simp[hg _ _ _ ht']) hx hx' he
theorem RVt.forget{Φ:Fz}{n:Nat}{β:Spots}{ls:List Nat}:∀{i:Nat} {xs:List AV} {vs:List Value},RVt Φ n β xs vs->RVt Φ n β (forget ls i xs) vs
 |_,[],_,h=>by simpa[Go.Proofs.YtcgggihjcelmhaaGreat.forget]using h
 |i,x::xs,_,h=>by simp only[RVt,Go.Proofs.YtcgggihjcelmhaaGreat.forget]at h ⊢;obtain⟨v,vs',e,h1,h2⟩:=h;refine⟨v,vs',e,?_,RVt.forget h2⟩;cases live ls i;{simp[RV]};{exact h1}
theorem Ent.tidy{m n:Nat}{env:List AV}{H:Heap}(ls rs:List Nat):Ent m (forget ls 0 env) (H.norm rs) n env H n:=λΦ β _ _ hm hK hH hv=>⟨Φ,β,hm,λ_ _=>rfl,Fz.le_refl Φ,hK,hH.less λ_ _ _ h=>aZz h,hv.forget⟩
def TK(ls rs:List Nat)(K:List AV->Heap->Nat->Prop):List AV->Heap->Nat->Prop:=λenv H n=>K (forget ls 0 env) (H.norm rs) n
def bc(b:Bool)(p:Prop):Prop:=match b with|true=>p|false=>False
theorem sA{b:Bool}{p:Prop}(h:bc b p):b=true/\p:=by cases b;{exact h.elim};{exact⟨rfl,h⟩}
def yop(P:Program)(env:List AV)(H:Heap)(n:Nat)(K:AV->Heap->Nat->Prop):LOp->Prop
 | .pick c a b=>match c.val env with
  | .bool true=>K (a.val env) H n
  | .bool false=>K (b.val env) H n
  |_=>False
 | .load ag m a=>match a.val env with
  | .ptr r π o=>match H.get r π with
   |some t=>bc (qZH (o+m) t.cs.length&&(ag||f9 m 1)) (K (bY ag (refer r π 0 t.cs) o m) H n)
   |none=>False
  | .bptr cs o=>bc (qZH (o+m) cs.length&&(ag||f9 m 1)) (K (bY ag cs o m) H n)
  |_=>False
 | .store m a x=>match a.val env,(x.val env).cells with
  | .ptr r π o,some vs=>match H.get r π with
   |some t=>bc (f9 vs.length m&&qZH (o+m) t.cs.length) (K .und (H.put r π (aT t.cs o vs)) n)
   |none=>False
  |_,_=>False
 | .bin op x y=>match x.val env,y.val env with
  | .int k a,.int k' b=>bc (decide (k=k')) (uX op k a b λv=>K v H n)
  |_,_=>False
 | .fld ag off m x=>match x.val env with
  | .agg cs=>bc (qZH (off+m) cs.length&&(ag||f9 m 1)) (K (bY ag cs off m) H n)
  |_=>False
 | .iadr sz x i=>match x.val env,i.val env with
  | .sref r π o m sz',.int _ k=>bc (f9 sz' sz) ((0<=k/\k<m)/\K (.ptr r π (o+k.toNat*sz)) H n)
  | .bor m cs,.int _ k=>(0<=k/\k<m/\k.toNat*sz<cs.length)/\K (.bptr cs (k.toNat*sz)) H n
  |_,_=>False
 | .ext x i=>match x.val env with
  | .tup vs=>bc (qZH (i+1) vs.length) (K (vs.getD i .unk) H n)
  |_=>False
 | .mx most x y=>match x.val env,y.val env with
  | .int k a,.int k' b=>bc (decide (k=k')) (K (.int k (match most with|true=>max a b|false=>min a b)) H n)
  |_,_=>False
 |op=>xop P env H n K op
def bLi:Bool->Bool->Bool
 |true,true=>true
 |false,false=>true
 |_,_=>false
theorem aSc{a b:Bool}:bLi a b=decide (a=b):=by cases a<;>cases b<;>rfl
section
variable {P : Program} {env : List AV} {H : Heap} {n : Nat}
theorem chk{a b m:Nat}{ag:Bool}(h:(qZH a b&&(ag||f9 m 1))=true):a<=b/\(ag=false->m=1):=by simp only[x5,r9,qQV,qJZ]at h;refine⟨h.1,λe=>?_⟩;rcases h.2 with h2|h2;{rw[e]at h2;cases h2};{exact h2}
theorem dJ{K:AV->Heap->Nat->Prop}{op:LOp}(h:yop P env H n K op):xop P env H n K op:=by
 unfold yop at h;split at h
 case h_1 c a b=>simp only[xop];split at h;{rename_i hc;rw[hc];simpa using h};{rename_i hc;rw[hc];simpa using h};{exact h.elim}
 case h_2 ag m a=>simp only[xop];split at h;{rename_i r π o hc;rw[hc];split at h;{rename_i t ht;obtain⟨h1,h2⟩:=sA h;obtain⟨h3,h4⟩:=chk h1;simp only[ht];exact⟨h3,h4,h2⟩};{exact h.elim}};{rename_i cs o hc;rw[hc];obtain⟨h1,h2⟩:=sA h;obtain⟨h3,h4⟩:=chk h1;exact⟨h3,h4,h2⟩};{exact h.elim}
 case h_3 m a x=>simp only[xop];split at h;{rename_i r π o vs hc hx;rw[hc,hx];split at h;{rename_i t ht;obtain⟨h1,h2⟩:=sA h;simp only[x5,qQV,qJZ]at h1;simp only[ht];exact⟨h1.1,h1.2,h2⟩};{exact h.elim}};{exact h.elim}
 case h_4 op x y=>simp only[xop];split at h;{rename_i k a k' b hx hy;rw[hx,hy];obtain⟨h1,h2⟩:=sA h;exact⟨by simpa using h1,h2⟩};{exact h.elim}
 case h_5 ag off m x=>simp only[xop];split at h;{rename_i cs hx;rw[hx];obtain⟨h1,h2⟩:=sA h;obtain⟨h3,h4⟩:=chk h1;exact⟨h3,h4,h2⟩};{exact h.elim}
 case h_6 sz x i=>simp only[xop];split at h;{rename_i r π o m sz' kd k hx hi;rw[hx,hi];obtain⟨h1,h2⟩:=sA h;simp only[qJZ]at h1;exact⟨⟨h1,h2.1⟩,h2.2⟩};{rename_i m cs kd k hx hi;rw[hx,hi];exact h};{exact h.elim}
 case h_7 x i=>simp only[xop];split at h;{rename_i vs hx;rw[hx];obtain⟨h1,h2⟩:=sA h;simp only[qQV]at h1;exact⟨h1,h2⟩};{exact h.elim}
 case h_8 most x y=>simp only[xop];split at h;{rename_i k a k' b hx hy;rw[hx,hy];obtain⟨h1,h2⟩:=sA h;exact⟨by simpa using h1,h2⟩};{exact h.elim}
 case h_9=>exact h
def bW(P:Program)(K:List AV->Heap->Nat->Prop):List LOper->List AV->Heap->Nat->Prop
 |[],env,H,n=>K env H n
 |o::os,env,H,n=>match o.g with
  |none=>yop P env H n (λv H' n'=>bW P K os (put env o.dst v) H' n') o.op
  |some (t,want)=>match env.getD t .unk with
   | .bool b=>match bLi b want with
    |true=>yop P env H n (λv H' n'=>bW P K os (put env o.dst v) H' n') o.op
    |false=>bW P K os (put env o.dst .und) H n
   | .und=>bW P K os (put env o.dst .und) H n
   |_=>False
theorem lJ{K:List AV->Heap->Nat->Prop}:∀{os:List LOper} {env:List AV} {H:Heap} {n:Nat},bW P K os env H n->eX P K os env H n
 |[],_,_,_,h=>h
 |o::os,env,H,n,h=>by
  unfold bW at h;unfold eX;split at h;{rename_i hg;rw[hg];exact kD (λv H' n' hk=>lJ hk) (dJ h)}
  · rename_i t want hg
    rw[hg];show(match env.getD t .unk with| .bool b=>_| .und=>_|_=>False);split at h
    · rename_i b hb
      try rw[hb]
      rw[aSc]at h;by_cases e:b=want;{simp only[e,decide_true]at h;simp only[e,if_true];exact kD (λv H' n' hk=>lJ hk) (dJ h)};{simp only[e,decide_false]at h;simp only[e,if_false];exact lJ h}
    · rename_i hb
      try rw[hb]
      exact lJ h
    {exact h.elim}
def yq(P:Program)(env:List AV)(H:Heap)(n:Nat)(K:AV->Prop):LOp->Prop
 | .call f xs=>xq P env H n K (.call f xs)
 |op=>match op.quiet with
  |true=>yop P env H n (λv _ _=>K v) op
  |false=>False
theorem bWt{K:AV->Prop}{op:LOp}(h:yq P env H n K op):xq P env H n K op:=by
 cases op
 case call f xs=>exact h
 all_goals
  simp only[yq]at h;split at h;{rename_i hq;exact⟨hq,dJ h⟩};{exact h.elim}
theorem aNa{K K':AV->Prop}{op:LOp}(hk:∀v,K v->K' v)(h:xq P env H n K op):xq P env H n K' op:=by
 cases op
 case call f xs=>simp only[xq]at h ⊢;obtain⟨args,r,h1,h2,h3,h4⟩:=h;exact⟨args,r,h1,h2,h3,hk _ h4⟩
 all_goals exact⟨h.1,kD (λv _ _ hv=>hk v hv) h.2⟩
def yqs(P:Program)(H:Heap)(n:Nat)(K:List AV->Prop):List LOper->List AV->Prop
 |[],env=>K env
 |o::os,env=>match o.g with
  |none=>yq P env H n (λv=>yqs P H n K os (put env o.dst v)) o.op
  |some (t,want)=>match env.getD t .unk with
   | .bool b=>match bLi b want with
    |true=>yq P env H n (λv=>yqs P H n K os (put env o.dst v)) o.op
    |false=>yqs P H n K os (put env o.dst .und)
   | .und=>yqs P H n K os (put env o.dst .und)
   |_=>False
theorem aFw{K:List AV->Prop}:∀{os:List LOper} {env:List AV},yqs P H n K os env->xqs P H n K os env
 |[],_,h=>h
 |o::os,env,h=>by
  unfold yqs at h;unfold xqs;split at h;{rename_i hg;rw[hg];exact aNa (λv hk=>aFw hk) (bWt h)}
  · rename_i t want hg
    rw[hg];show(match env.getD t .unk with| .bool b=>_| .und=>_|_=>False);split at h
    · rename_i b hb
      try rw[hb]
      rw[aSc]at h;by_cases e:b=want;{simp only[e,decide_true]at h;simp only[e,if_true];exact aNa (λv hk=>aFw hk) (bWt h)};{simp only[e,decide_false]at h;simp only[e,if_false];exact aFw h}
    · rename_i hb
      try rw[hb]
      exact aFw h
    {exact h.elim}
def Agr(M:List Nat)(n0:Nat)(H H':Heap):Prop:=∀r,r<n0->M.contains r=false->H'.get1 r=H.get1 r
theorem Agr.refl{M:List Nat}{n0:Nat}{H:Heap}:Agr M n0 H H:=λ_ _ _=>rfl
theorem Agr.trans{M:List Nat}{n0:Nat}{H H' H2:Heap}(h:Agr M n0 H H')(k:Agr M n0 H' H2):Agr M n0 H H2:=λr h1 h2=>(k r h1 h2).trans (h r h1 h2)
theorem Agr.get{M:List Nat}{n0 r:Nat}{H H':Heap}(h:Agr M n0 H H')(h1:r<n0)(h2:M.contains r=false):∀π,H'.get r π=H.get r π:=lI (h r h1 h2)
theorem Agr.cons{M:List Nat}{n0 k:Nat}{H:Heap}{t:Option Root}(h:n0<=k):Agr M n0 H ((k,t)::H):=λr h1 _=>by simp only[Heap.get1];rw[if_neg (by omega)]
def aUe(M:List Nat)(n0:Nat):Option (Nat×List Nat)->Bool
 |none=>true
 |some (r,_)=>Nat.blt r n0&&!M.contains r
def ydo(P:Program)(M:List Nat)(n0:Nat)(env:List AV)(H:Heap)(n:Nat)(K:AV->Heap->Nat->Prop)(op:LOp):Prop:=
 match op.quiet with
 |true=>bc (aUe M n0 (gV env op)) (yop P env H n (λv _ _=>K v H n) op)
 |false=>yop P env H n (λv H' n'=>(n<=n'/\Agr M n0 H H')/\K v H' n') op
def yds(P:Program)(M:List Nat)(n0:Nat)(K:DK):List LOper->List AV->Heap->Nat->Fresh->Prop
 |[],env,H,n,fs=>K env H n fs
 |o::os,env,H,n,fs=>match mB o.g env with
  |some true=>match o.op with
   | .bsl _ _ m z ps=>match eC env (aR z m) ps with
    |some cs=>yds P M n0 K os (put env o.dst (rC m cs)) H n fs
    |none=>False
   | .fresh e z=>match fs,o.dst with
    |none,some d=>yds P M n0 K os (put env (some d) .unk) H n (some (d,e,z))
    |_,_=>False
   |op=>ydo P M n env H n (λv H' n'=>yds P M n0 K os (put env o.dst v) H' n' fs) op
  |some false=>yds P M n0 K os (put env o.dst .und) H n fs
  |none=>False
theorem aXg{M:List Nat}{n:Nat}{H H':Heap}(h:Agr M n H H'):∀{ls:List (Nat×List Nat×Option Root)},(∀p∈ls,p.1<n/\M.contains p.1=false/\p.2.2=H.get p.1 p.2.1)->kept H' ls
 |[],_=>trivial
 |(r,π,t)::ls,hl=>by obtain⟨h1,h2,h3⟩:=hl (r,π,t) (by simp);exact⟨by rw[h.get h1 h2];exact h3.symm,aXg h λp hp=>hl p (by simp[hp])⟩
theorem Agr.low{M:List Nat}{m n:Nat}{H H':Heap}(h:Agr M n H H')(hm:m<=n):Agr M m H H':=λr h1 h2=>h r (o7 h1 hm) h2
theorem xY{M:List Nat}{n0:Nat}{K K':DK}(hk:∀env H n fs,K env H n fs->K' env H n fs):∀{os:List LOper} {hs:List (Heap×Nat)} {ls:List (Nat×List Nat×Option Root)} {env:List AV} {H:Heap} {n:Nat} {fs:Fresh},
 (∀h∈hs,h.2<=n/\Agr M h.2 h.1 H)->(∀p∈ls,p.1<n/\M.contains p.1=false/\p.2.2=H.get p.1 p.2.1)->yds P M n0 K os env H n fs->xds P K' os hs ls env H n fs
 |[],_,_,_,_,_,_,_,_,h=>hk _ _ _ _ h
 |o::os,hs,ls,env,H,n,fs,hh,hl,h=>by
  unfold yds at h;unfold xds;split at h
  · rename_i hg
    rw[hg];show(match o.op with| .bsl _ _ m z ps=>_| .fresh e z=>_|op=>_);split at h
    · rename_i m z ps ho
      try rw[ho]
      show(match eC env (aR z m) ps with|some cs=>_|none=>False);split at h
      · rename_i cs hc
        try rw[hc]
        exact xY hk hh hl h
      {exact h.elim}
    · rename_i e z ho
      try rw[ho]
      split at h
      · rename_i d hd
        try simp only[hd]
        exact xY hk hh hl h
      {exact h.elim}
    · rename_i n1 n2
      unfold ydo at h;split at h
      · rename_i hq
        obtain⟨h1,h2⟩:=sA h
        have hx:=kD (K':=λv _ _=>xds P K' os hs (noted H (gV env o.op) ls) (put env o.dst v) H n fs) (λv _ _ hk2=>xY hk hh (by
         intro p hp;cases hsn:gV env o.op with
         |none=>rw[hsn]at hp;exact hl p hp
         |some q=>
          obtain⟨r,π⟩:=q;rw[hsn]at hp h1;simp only[noted,g8]at hp;rcases hp with rfl|hp;{simp only[aUe,x5,u0]at h1;have hlt:r<n:=(by have:=h1.1;simp only[Nat.blt,qQV]at this;omega);exact⟨hlt,h1.2,rfl⟩}
          · exact hl p hp) hk2) (dJ h2)
        have hsame:same H (gV env o.op) hs:=(by refine xP λh0 hm=>?_;(cases hsn:gV env o.op with|none=>trivial|some q=>obtain⟨r,π⟩:=q;rw[hsn]at h1;simp only[aUe,x5,u0]at h1;intro hlt;exact((hh h0 hm).2.get hlt h1.2 π).symm));generalize hop:o.op=op at*
        cases op<;>first
         |exact(n1 _ _ _ _ _ rfl).elim
         |exact(n2 _ _ rfl).elim
         |(simp only[hq];exact⟨hsame,hx⟩)
         |(simp[LOp.quiet]at hq)
      · rename_i hq
        have hx:=kD (K':=λv H' n'=>n<=n'/\kept H' ls/\xds P K' os ((H',n')::hs) ls (put env o.dst v) H' n' fs) (λv H' n' ⟨⟨hn,ha⟩,hk2⟩=>by
         refine⟨hn,aXg ha hl,xY hk ?_ (λp hp=>?_) hk2⟩;{intro h0 hm;rcases g8.1 hm with rfl|hm;{exact⟨k9 _,Agr.refl⟩};{exact⟨qQQ (hh h0 hm).1 hn,(hh h0 hm).2.trans (ha.low (hh h0 hm).1)⟩}}
         · obtain⟨q1,q2,q3⟩:=hl p hp;exact⟨o7 q1 hn,q2,by rw[ha.get q1 q2];exact q3⟩) (dJ h)
        generalize hop:o.op=op at*
        cases op<;>first
         |exact(n1 _ _ _ _ _ rfl).elim
         |exact(n2 _ _ rfl).elim
         |(simp only[hq];exact hx)
         |(simp[LOp.quiet]at hq)
  {rename_i hg;rw[hg];exact xY hk hh hl h};{exact h.elim}
end
section
variable {P : Program}
theorem bDk{K:List AV->Heap->Nat->Prop}{post:List LOper}:∀{pre:List LOper} {env:List AV} {H:Heap} {n:Nat},bW P K (pre++post) env H n=bW P (bW P K post) pre env H n
 |[],_,_,_=>rfl
 |o::pre,env,H,n=>by have ih:∀env H n,bW P K (pre++post) env H n=bW P (bW P K post) pre env H n:=λenv H n=>bDk;simp only[n7,bW,ih]
theorem bHe{H:Heap}{n:Nat}{K:List AV->Prop}{post:List LOper}:∀{pre:List LOper} {env:List AV},yqs P H n K (pre++post) env=yqs P H n (yqs P H n K post) pre env
 |[],_=>rfl
 |o::pre,env=>by have ih:∀env,yqs P H n K (pre++post) env=yqs P H n (yqs P H n K post) pre env:=λenv=>bHe;simp only[n7,yqs,ih]
theorem bHt{M:List Nat}{n0:Nat}{K:DK}{post:List LOper}:∀{pre:List LOper} {env:List AV} {H:Heap} {n:Nat} {fs:Fresh},yds P M n0 K (pre++post) env H n fs=yds P M n0 (yds P M n0 K post) pre env H n fs
 |[],_,_,_,_=>rfl
 |o::pre,env,H,n,fs=>by
  have ih:∀env H n fs,yds P M n0 K (pre++post) env H n fs=yds P M n0 (yds P M n0 K post) pre env H n fs:=λenv H n fs=>bHt;simp only[n7,yds,ih]
  repeat' split
  all_goals first|rfl|(simp only[*];done)|skip
end
section
variable {P : Program} {Q : Post} {env : List AV} {H : Heap} {n m : Nat} {ops : List LOper} {b x y : LCode}
theorem nB{K K':List AV->Heap->Nat->Prop}(hk:∀env H n,K env H n->K' env H n):∀{os:List LOper} {env:List AV} {H:Heap} {n:Nat},eX P K os env H n->eX P K' os env H n
 |[],_,_,_,h=>hk _ _ _ h
 |o::os,env,H,n,h=>by simp only[eX]at h ⊢;split at h;{exact kD (λv H' n' h=>nB hk h) h};{split at h;{split at h;{rename_i hb;rw[if_pos hb];exact kD (λv H' n' h=>nB hk h) h};{rename_i hb;rw[if_neg hb];exact nB hk h}};{exact nB hk h};{exact h.elim}}
theorem aDi{K K':List AV->Prop}(hk:∀env,K env->K' env):∀{os:List LOper} {env:List AV},xqs P H n K os env->xqs P H n K' os env
 |[],_,h=>hk _ h
 |o::os,env,h=>by simp only[xqs]at h ⊢;split at h;{exact aNa (λv h=>aDi hk h) h};{split at h;{split at h;{rename_i hb;rw[if_pos hb];exact aNa (λv h=>aDi hk h) h};{rename_i hb;rw[if_neg hb];exact aDi hk h}};{exact aDi hk h};{exact h.elim}}
theorem aUi(ls rs:List Nat):∀env H n,TK ls rs (Aw P m b Q) env H n->Post.then P m b Q .normal env H n:=λ_ _ _ h=>Aw.ent (Ent.tidy ls rs) h
theorem Aw.sreg(ls rs:List Nat)(h:Hld (bW P (TK ls rs (Aw P m b Q)) ops env H n)):Aw P m (.seq (.reg false ops) b) Q env H n:=Aw.seq (Aw.reg (nB (aUi ls rs) (lJ h.un)))
theorem Aw.oreg(h:Hld (bW P (Q .normal) ops env H n)):Aw P m (.reg false ops) Q env H n:=Aw.reg (lJ h.un)
def TT(P:Program)(tail:List LOper)(K:List AV->Heap->Nat->Prop)(H:Heap)(n:Nat):List AV->Prop:=λenv=>bW P K tail env H n
theorem Aw.sregt(ls rs:List Nat){tail:List LOper}(h:Hld (yqs P H n (TT P tail (TK ls rs (Aw P m b Q)) H n) ops env)):Aw P m (.seq (.regt ops tail) b) Q env H n:=Aw.seq (Aw.regt (aDi (λ_ h=>nB (aUi ls rs) (lJ h)) (aFw h.un)))
def TD(P:Program)(tail:List LOper)(K:List AV->Heap->Nat->Prop):DK:=λenv H n fs=>match fs with
 |none=>bW P K tail env H n
 |some (d,e,z)=>bW P K tail (put env (some d) (.ptr n [] 0)) ((n,some ⟨e,z⟩)::H) (n+1)
theorem bDq{tail:List LOper}{K:List AV->Heap->Nat->Prop}(hk:∀env H n,K env H n->Q .normal env H n){env:List AV}{H:Heap}{n:Nat}{fs:Fresh}(h:TD P tail K env H n fs):bKg P tail Q env H n fs:=by
 (cases fs with|none=>exact nB hk (lJ h)|some p=>obtain⟨d,e,z⟩:=p;exact nB hk (lJ h))
theorem Aw.sregd(ls rs M:List Nat){tail:List LOper}(hb:aCw env.length (ops++tail)=true)(h:Hld (yds P M n (TD P tail (TK ls rs (Aw P m b Q))) ops env H n none)):Aw P m (.seq (.regd ops tail) b) Q env H n:=Aw.seq (Aw.regd hb (xY (λ_ _ _ _ h=>bDq (aUi ls rs) h) (λh0 hm=>by simp only[List.mem_singleton]at hm;subst hm;exact⟨k9 _,Agr.refl⟩) (λp hp=>by simp at hp) h.un))
theorem Aw.oregd(M:List Nat){tail:List LOper}(hb:aCw env.length (ops++tail)=true)(h:Hld (yds P M n (TD P tail (Q .normal)) ops env H n none)):Aw P m (.regd ops tail) Q env H n:=Aw.regd hb (xY (λ_ _ _ _ h=>bDq (λ_ _ _ h=>h) h) (λh0 hm=>by simp only[List.mem_singleton]at hm;subst hm;exact⟨k9 _,Agr.refl⟩) (λp hp=>by simp at hp) h.un)
end
section
variable {P : Program} {Q Q' : Post} {env : List AV} {H : Heap} {n m : Nat} {ops : List LOper} {b x y : LCode}
theorem Aw.condT{c:Opd}{t:Bool}(hc:c.val env= .bool t)(ht:t=true)(h:Aw P m x Q env H n):Aw P m (.cond c x y) Q env H n:=Aw.cond hc (λ_=>h) (λe=>by rw[ht]at e;cases e)
theorem Aw.condF{c:Opd}{t:Bool}(hc:c.val env= .bool t)(ht:t=false)(h:Aw P m y Q env H n):Aw P m (.cond c x y) Q env H n:=Aw.cond hc (λe=>by rw[ht]at e;cases e) (λ_=>h)
theorem Aw.xskip(hQ:∀env H n,Aw P m b Q' env H n->Q .normal env H n)(h:Aw P m b Q' env H n):Aw P m .skip Q env H n:=Aw.skip (hQ _ _ _ h)
theorem Aw.tidy{c:LCode}(ls rs:List Nat)(h:Aw P m c Q (forget ls 0 env) (H.norm rs) n):Aw P m c Q env H n:=Aw.ent (Ent.tidy ls rs) h
theorem Aw.says{c:LCode}{env2:List AV}{H2:Heap}(he:env=env2)(hh:H=H2)(h:Aw P m c Q env2 H2 n):Aw P m c Q env H n:=by subst he;subst hh;exact h
theorem Aw.join {S:Type} {c:LCode} (E:S->List AV) (Hp:S->Heap) (N:Nat) (Φ:S->Prop) (J:∀s,Φ s->Aw P m b Q (E s) (Hp s) N)
 (h:∀Q':Post,(∀s env H n,Φ s->Ent m (E s) (Hp s) N env H n->Q' .normal env H n)->(∀env H n,Q .ret env H n->Q' .ret env H n)->(∀i env H n,Q (.exit i) env H n->Q' (.exit i) env H n)->Aw P m c Q' env H n):
 Aw P m (.seq c b) Q env H n:=
 Aw.seq (h _ (λs _ _ _ hs he=>Aw.ent he (J s hs)) (λ_ _ _ h=>h) (λ_ _ _ _ h=>h))
def cAq(I:Nat->List AV->Heap->Nat->Prop)(m k:Nat)(Q:Post):Post
 | .normal=>λenv H n=>∃j env2 H2 n2,j<k/\Ent m env2 H2 n2 env H n/\I j env2 H2 n2
 |e=>Q e
theorem Aw.loopN {c:LCode} (I:Nat->List AV->Heap->Nat->Prop) (h0:∃k env2 H2 n2,Ent m env2 H2 n2 env H n/\I k env2 H2 n2)
 (round:∀k env2 H2 n2,I k env2 H2 n2->Aw P m c (cAq I m k Q) env2 H2 n2):Aw P m (.loop c) Q env H n:=by
 have hl:∀env H n,(∃k,I k env H n)->∃k,I k env H n/\∀j,I j env H n->k<=j:=λenv H n ⟨k,hk⟩=>aZv (λk=>I k env H n) k hk;let μ:List AV->Heap->Nat->Nat:=λenv H n=>open Classical in if h:∃k,I k env H n then Classical.choose (hl env H n h)else 0
 have hμ:∀env H n,(∃k,I k env H n)->I (μ env H n) env H n/\∀j,I j env H n->μ env H n<=j:=λenv H n h=>by have e:μ env H n=Classical.choose (hl env H n h):=(by simp only[μ];rw[dif_pos h]);rw[e];exact Classical.choose_spec (hl env H n h)
 refine Aw.loop (λenv H n=>∃k,I k env H n) μ ?_ ?_;{obtain⟨k,env2,H2,n2,h1,h2⟩:=h0;exact⟨env2,H2,n2,h1,k,h2⟩};{intro env2 H2 n2 hI;obtain⟨h1,h2⟩:=hμ env2 H2 n2 hI;refine Aw.mono (round _ env2 H2 n2 h1) λo env H n hq=>?_;(cases o with|normal=>obtain⟨j,env3,H3,n3,hj,he,hI3⟩:=hq;refine⟨env3,H3,n3,he,⟨j,hI3⟩,?_⟩;have:=(hμ env3 H3 n3 ⟨j,hI3⟩).2 j hI3;omega|exit i=>exact hq|ret=>exact hq)}
def cIh{S R:Type}(step:S->Option (LO S R))(out:LO S R)(E:S->List AV)(Hp:S->Heap)(N:Nat):Nat->List AV->Heap->Nat->Prop:=λj env H n=>∃s,eU step j s=some out/\env=E s/\H=Hp s/\n=N
theorem Aw.iter {S R:Type} {c:LCode} {step:S->Option (LO S R)} {out:LO S R} (E:S->List AV) (Hp:S->Heap) (N:Nat) {s0:S} (hi:Go.Proofs.YtcgggihjcelmhaaGreat.iter step s0=some out) (h0:Ent m (E s0) (Hp s0) N env H n)
 (round:∀(s:S) (o:LO S R) (Q':Post),step s=some o->
  (∀s2 env H n,o= .next s2->Ent m (E s2) (Hp s2) N env H n->Q' .normal env H n)->
  (∀r i env H n,o= .ret r->(out= .ret r->Q (.exit i) env H n)->Q' (.exit i) env H n)->
  (∀r env H n,o= .ret r->(out= .ret r->Q .ret env H n)->Q' .ret env H n)->Aw P m c Q' (E s) (Hp s) N):Aw P m (.loop c) Q env H n:=by
 obtain⟨k,hk⟩:=aKf hi;refine Aw.loopN (cIh step out E Hp N) ⟨k,_,_,_,h0,s0,hk,rfl,rfl,rfl⟩ ?_
 rintro j _ _ _ ⟨s,hs,rfl,rfl,rfl⟩
 obtain⟨o,ho,hm⟩:=bMu hs;refine round s o _ ho ?_ ?_ ?_
 · rintro s2 env H n rfl he
   obtain⟨i,hi,hi2⟩:=hm;exact⟨i,_,_,_,hi,he,s2,hi2,rfl,rfl,rfl⟩
 · rintro r i env H n rfl hq
   exact hq hm
 · rintro r env H n rfl hq
   exact hq hm
def rho(L:List (Option Nat))(i:Nat):Option Nat:=L.getD i none
def dH:List (Option Nat)->Bool
 |[]=>true
 |none::l=>dH l
 |some j::l=>!l.contains (some j)&&dH l
theorem zU:∀{L:List (Option Nat)},dH L=true->∀{r r' j},rho L r=some j->rho L r'=some j->r=r'
 |[],_,r,r',j,h,_=>by simp[rho]at h
 |x::L,hn,r,r',j,h,h'=>by have hn2:dH L=true:=(by cases x<;>simp_all [dH]);(cases r with|zero=>(cases r' with|zero=>rfl|succ r'=>simp only[rho,qQW,r7]at h h';subst h;simp only[dH,x5,u0,qJX,decide_eq_false_iff_not]at hn;exfalso;apply hn.1;rcases Nat.lt_or_ge r' L.length with hl|hl;{rw[x8,y9 hl]at h';simp only[Option.getD_some]at h';rw[<-h'];exact List.getElem_mem hl};{simp[x8,Nat.not_lt.2 hl]at h'})|succ r=>(cases r' with|zero=>simp only[rho,qQW,r7]at h h';subst h';simp only[dH,x5,u0,qJX,decide_eq_false_iff_not]at hn;exfalso;apply hn.1;rcases Nat.lt_or_ge r L.length with hl|hl;{rw[x8,y9 hl]at h;simp only[Option.getD_some]at h;rw[<-h];exact List.getElem_mem hl};{simp[x8,Nat.not_lt.2 hl]at h}|succ r'=>simp only[rho,r7]at h h';exact congrArg _ (zU hn2 h h')))
def HS(ρ:Nat->Option Nat)(n2:Nat)(H:Heap):Heap->Prop
 |[]=>True
 |(r,some t2)::H2=>(r<n2/\((ρ r=none/\t2.cs=[])\/∃j t,ρ r=some j/\H.get1 j=some t/\t.e=t2.e/\Rens ρ n2 t2.cs t.cs))/\HS ρ n2 H H2
 |(_,none)::H2=>HS ρ n2 H H2
theorem HS.root{ρ:Nat->Option Nat}{n2:Nat}{H:Heap}:∀{H2:Heap},HS ρ n2 H H2->∀r t2,H2.get1 r=some t2->r<n2/\((ρ r=none/\t2.cs=[])\/∃j t,ρ r=some j/\H.get1 j=some t/\t.e=t2.e/\Rens ρ n2 t2.cs t.cs)
 |[],_,r,t2,h=>by simp[Heap.get1]at h
 |(k,some t)::H2,hs,r,t2,h=>by simp only[Heap.get1]at h;split at h;{rename_i e;subst e;cases h;exact hs.1};{exact HS.root hs.2 r t2 h}
 |(k,none)::H2,hs,r,t2,h=>by simp only[Heap.get1]at h;split at h;{cases h};{exact HS.root (show HS ρ n2 H H2 from hs) r t2 h}
theorem bWm{ρ:Nat->Option Nat}{n2 r j:Nat}{H H2:Heap}{t t2:Root}(hn:r<n2)(hj:ρ r=some j)(ht:H.get1 j=some t)(he:t.e=t2.e)(hr:Rens ρ n2 t2.cs t.cs)(h:HS ρ n2 H H2):HS ρ n2 H ((r,some t2)::H2):=⟨⟨hn,.inr ⟨j,t,hj,ht,he,hr⟩⟩,h⟩
theorem iW{ρ:Nat->Option Nat}{n2 r:Nat}{H H2:Heap}{t2:Root}(hn:r<n2)(hj:ρ r=none)(he:t2.cs=[])(h:HS ρ n2 H H2):HS ρ n2 H ((r,some t2)::H2):=⟨⟨hn,.inl ⟨hj,he⟩⟩,h⟩
theorem cN{ρ:Nat->Option Nat}{n2:Nat}{H:Heap}:HS ρ n2 H []:=trivial
def aUb(m:Nat)(L:List (Option Nat)):Bool:=(List.range m).all λi=>rho L i==some i
theorem Ent.list{m n n2:Nat}{xs2 xs:List AV}{H2 H:Heap}(L:List (Option Nat))(hd:dH L=true)(hp:aUb m L=true)(h2:m<=n2)(h3:Rens (rho L) n2 xs2 xs)(h4:HS (rho L) n2 H H2):Ent m xs2 H2 n2 xs H n:=Ent.sub (rho L) (λi hi=>by simp only[aUb,w5,f8,beq_iff_eq]at hp;exact hp i hi) h2 h3 ⟨h4.root,λ_ _ _ _ _ e1 e2=>zU hd e1 e2⟩
theorem Rens.of_get{ρ:Nat->Option Nat}{n:Nat}:∀{xs ys:List AV},ys.length=xs.length->(∀t,t<xs.length->Ren ρ n (xs.getD t .unk) (ys.getD t .unk))->Rens ρ n xs ys
 |[],ys,h,_=>by simp only[Rens];exact m6.1 (by simpa using h)
 |x::xs,[],h,_=>by simp at h
 |x::xs,y::ys,h,k=>by simp only[Rens];exact⟨y,ys,rfl,k 0 (by simp),Rens.of_get (by simpa using h) λt ht=>by simpa using k (t+1) (by simpa using ht)⟩
def RL(ρ:Nat->Option Nat)(n:Nat)(env:List AV):List (Nat×AV)->Prop
 |[]=>True
 |(i,v)::l=>Ren ρ n v (env.getD i .unk)/\RL ρ n env l
theorem RL.mem{ρ:Nat->Option Nat}{n:Nat}:∀{l:List (Nat×AV)},RL ρ n env l->∀{i v},(i,v)∈l->Ren ρ n v (env.getD i .unk)
 |[],_,_,_,h=>by cases h
 |(j,u)::l,hl,i,v,h=>by rcases g8.1 h with e|h;{cases e;exact hl.1};{exact hl.2.mem h}
theorem spGo_length:∀{k i:Nat} {l:List (Nat×AV)},(uW i k l).length=k
 |0,_,_=>by simp[uW]
 |k+1,i,[]=>by simp[uW,spGo_length]
 |k+1,i,(j,v)::l=>by simp only[uW];split<;>simp[spGo_length]
theorem zL:∀{k i t:Nat} {l:List (Nat×AV)},(uW i k l).getD t .unk= .unk\/(i+t,(uW i k l).getD t .unk)∈l
 |0,_,_,_=>by simp[uW]
 |k+1,i,t,[]=>by simp only[uW];(cases t with|zero=>simp|succ t=>have:=zL (k:=k) (i:=i+1) (t:=t) (l:=[]);simpa using this)
 |k+1,i,t,(j,v)::l=>by
  simp only[uW];split;{rename_i h;(cases t with|zero=>right;simp only[qQW,Nat.add_zero];rw[Nat.eq_of_beq_eq_true h];simp|succ t=>have:=zL (k:=k) (i:=i+1) (t:=t) (l:=l);simp only[r7];rw[show i+(t+1)=i+1+t by omega];exact this.imp id λh=>List.mem_cons_of_mem _ h)}
  · cases t with
    |zero=>simp
    |succ t=>have:=zL (k:=k) (i:=i+1) (t:=t) (l:=(j,v)::l);simp only[r7];rw[show i+(t+1)=i+1+t by omega];exact this
theorem xV{ρ:Nat->Option Nat}{n k:Nat}{l:List (Nat×AV)}(hl:env.length=k)(h:RL ρ n env l):Rens ρ n (sp k l) env:=by refine Rens.of_get (by rw[hl];exact spGo_length.symm) λt _=>?_;rcases zL (k:=k) (i:=0) (t:=t) (l:=l)with e|e;{show Ren ρ n ((uW 0 k l).getD t .unk) _;rw[e];simp[Ren]};{rw[p9]at e;exact h.mem e}
section
variable {ρ : Nat → Option Nat}
theorem aGy{k:IntKind}{z:Int}:Ren ρ n (.int k z) (.int k z):=by simp[Ren]
theorem aIc{t:Bool}:Ren ρ n (.bool t) (.bool t):=by simp[Ren]
theorem bZc:Ren ρ n .nil .nil:=by simp[Ren]
theorem bWy{v:AV}:Ren ρ n .unk v:=by simp[Ren]
theorem aNe{r j o:Nat}{π:List Nat}(h:r<n)(hj:ρ r=some j):Ren ρ n (.ptr r π o) (.ptr j π o):=by simp[Ren,h,hj]
theorem aGx{r j o k sz:Nat}{π:List Nat}(h:r<n)(hj:ρ r=some j):Ren ρ n (.sref r π o k sz) (.sref j π o k sz):=by simp[Ren,h,hj]
theorem bCp{r j o k k2 sz:Nat}{π:List Nat}(h:r<n)(hj:ρ r=some j)(hk:k2=k):Ren ρ n (.sref r π o k sz) (.sref j π o k2 sz):=by subst hk;exact aGx h hj
theorem bAj{r o k sz:Nat}{π:List Nat}(h:r<n)(hj:ρ r=none)(hk:k=0):Ren ρ n (.sref r π o k sz) .nil:=by simp[Ren,h,hj,hk]
theorem bNz{r o k sz:Nat}{π:List Nat}(h:r<n)(hj:ρ r=none)(hk:k=0):Ren ρ n (.sref r π o k sz) .emp:=by simp[Ren,h,hj,hk]
theorem bS{k:Nat}{cs us:List AV}(h:Rens ρ n cs us):Ren ρ n (.bor k cs) (.bor k us):=by simp only[Ren];exact .inl ⟨us,rfl,h⟩
theorem aIw:Ren ρ n (.bor 0 []) .nil:=by simp[Ren]
theorem bUc:Ren ρ n (.bor 0 []) .emp:=by simp[Ren]
theorem oS{vs us:List AV}(h:Rens ρ n vs us):Ren ρ n (.agg vs) (.agg us):=by simp only[Ren];exact⟨us,rfl,h⟩
theorem fX{vs us:List AV}(h:Rens ρ n vs us):Ren ρ n (.tup vs) (.tup us):=by simp only[Ren];exact⟨us,rfl,h⟩
theorem iA:Rens ρ n [] []:=by simp[Rens]
theorem aW{v u:AV}{vs us:List AV}(h:Ren ρ n v u)(k:Rens ρ n vs us):Rens ρ n (v::vs) (u::us):=by simp only[Rens];exact⟨u,us,rfl,h,k⟩
theorem aL{vs:List AV}(h:aG vs=true):Rens ρ n vs vs:=Rens.noRef h
end
theorem Fn.start {f:FuncId} {lf:LFun} {args:List AV} {r v:AV} {Hr:Heap} {k:Nat} (hl:kP P f=some lf) (ls:List Nat) {E:List AV} (hE:forget ls 0 (args++j0 (lf.ntmps-args.length) .und)=E) (hr:bM 0 r=(v,Hr,k))
 (h:Aw P 0 lf.body (aTk 0 v Hr k lf.res) E [] 0):Fn P f args r:=by
 refine Fn.of_aw hl ?_;rw[hr];refine Aw.tidy ls [] ?_;rw[hE];exact h
theorem nX{r r':AV}{Hr:Heap}{k:Nat}{ls:List LRes}(h:iD env H ls=some r')(he:Ent m [r] Hr k [r'] H n):aTk m r Hr k ls .ret env H n:=⟨r',h,he⟩
theorem jI{ρ:Nat->Option Nat}{v u:AV}(h:Ren ρ n v u):Rens ρ n [v] [u]:=aW h iA
def fl{T:Type}(c:T->List AV)(xs:List T):List AV:=xs.flatMap c
@[reducible] def bo {T : Type} (c : T → List AV) (xs : List T) : AV := .bor xs.length (fl c xs)
@[reducible] def w64 (z : Int) : Int := IntKind.wrap .i64 z
def eI(k:IntKind)(z:Int):List AV:=[.int k z]
def eB(t:Bool):List AV:=[.bool t]
section
variable {T : Type} [Inhabited T] {c : T → List AV} {sz : Nat}
theorem zK{xs ys:List T}:fl c xs++fl c ys=fl c (xs++ys):=by simp[fl]
theorem bE(hc:∀x,(c x).length=sz):∀{xs:List T},(fl c xs).length=xs.length*sz
 |[]=>by simp[fl]
 |x::xs=>by have:=bE hc (xs:=xs);simp only[fl]at this;simp[fl,hc,this,qZQ,Nat.add_comm]
theorem qI(hc:∀x,(c x).length=sz):∀{xs:List T} {i:Nat},(fl c xs).drop (i*sz)=fl c (xs.drop i)
 |xs,0=>by simp
 |[],i+1=>by simp[fl]
 |x::xs,i+1=>by have:=qI hc (xs:=xs) (i:=i);simp only[fl,List.flatMap_cons,List.drop_succ_cons]at this ⊢;rw[<-this,qZQ,Nat.one_mul,Nat.add_comm (i*sz),List.drop_append,hc];simp[List.drop_eq_nil_of_le,hc]
theorem oI(hc:∀x,(c x).length=sz):∀{xs:List T} {i:Nat},(fl c xs).take (i*sz)=fl c (xs.take i)
 |xs,0=>by simp[fl]
 |[],i+1=>by simp[fl]
 |x::xs,i+1=>by have:=oI hc (xs:=xs) (i:=i);simp only[fl,List.flatMap_cons,List.take_succ_cons]at this ⊢;rw[<-this,qZQ,Nat.one_mul,Nat.add_comm (i*sz),List.take_append,hc];simp[qQX,hc]
theorem bQx(hc:∀x,(c x).length=sz){xs:List T}{i:Nat}(hi:i<xs.length):∃tl,(fl c xs).drop (i*sz)=c (xs.getD i default)++tl:=by refine⟨fl c (xs.drop (i+1)),?_⟩;rw[qI hc,List.drop_eq_getElem_cons hi];have:xs.getD i default=xs[i]:=(by simp[x8,hi]);rw[this];rfl
theorem vO(hc:∀x,(c x).length=sz){xs:List T}{i off:Nat}(hi:i<xs.length)(hf:off<sz):(fl c xs).getD (i*sz+off) .unk=(c (xs.getD i default)).getD off .unk:=by obtain⟨tl,h⟩:=bQx hc hi;have e:(fl c xs).getD (i*sz+off) .unk=((fl c xs).drop (i*sz)).getD off .unk:=(by simp[x8,t9]);rw[e,h];have:=e7 (l₂:=tl) (show off<(c (xs.getD i default)).length by rw[hc];exact hf);show((c (xs.getD i default)++tl)[off]?).getD .unk=_;rw[this];rfl
theorem aTv(hc:∀x,(c x).length=sz){xs:List T}{i off k:Nat}(hi:i<xs.length)(hf:off+k<=sz):((fl c xs).drop (i*sz+off)).take k=((c (xs.getD i default)).drop off).take k:=by obtain⟨tl,h⟩:=bQx hc hi;rw[<-List.drop_drop,h,List.drop_append_of_le_length (by rw[hc];omega),List.take_append_of_le_length (by rw[p8,hc];omega)]
theorem aEf:∀{vs cs ds:List AV} {o:Nat},o+vs.length<=cs.length->aT (cs++ds) o vs=aT cs o vs++ds
 |[],_,_,_,_=>rfl
 |v::vs,cs,ds,o,h=>by simp only[y7]at h;rw[aT,aT,List.set_append_left _ _ (by omega)];exact aEf (by simp;omega)
theorem aGj:∀{vs cs ds:List AV} {o:Nat},aT (ds++cs) (ds.length+o) vs=ds++aT cs o vs
 |[],_,_,_=>rfl
 |v::vs,cs,ds,o=>by rw[aT,aT,List.set_append_right _ _ (by omega),show ds.length+o-ds.length=o by omega,m4];exact aGj
theorem aJy(hc:∀x,(c x).length=sz){xs:List T}{i off:Nat}{vs:List AV}{y:T}(hi:i<xs.length)(hf:off+vs.length<=sz)(hy:aT (c (xs.getD i default)) off vs=c y):aT (fl c xs) (i*sz+off) vs=fl c (xs.set i y):=by
 have h1:xs=xs.take i++xs.getD i default::xs.drop (i+1):=(by have:xs.getD i default=xs[i]:=(by simp[x8,hi]);rw[this];rw[<-List.drop_eq_getElem_cons hi,List.take_append_drop]);have hl:(fl c (xs.take i)).length=i*sz:=by rw[bE hc,m7];congr 1;omega
 have h2:fl c xs=fl c (xs.take i)++(c (xs.getD i default)++fl c (xs.drop (i+1))):=by
  conv=>lhs;rw[h1]
  simp[fl]
 rw[h2,<-hl,aGj,aEf (by rw[hc];exact hf),hy];have h3:xs.set i y=xs.take i++y::xs.drop (i+1):=(by rw[List.set_eq_take_append_cons_drop,if_pos hi]);rw[h3];simp[fl]
theorem aCr{d:T}{z:List AV}(hz:z=c d):∀{k:Nat},aR z k=fl c (j0 k d)
 |0=>rfl
 |k+1=>by simp only[aR,aCr hz,List.replicate_succ];simp[fl,hz]
end
theorem cG{k:IntKind}:∀z,(eI k z).length=1:=λ_=>rfl
theorem dN{k:IntKind}:∀z,noOwn (eI k z)=true:=λ_=>rfl
theorem dB{k:IntKind}:∀z,aS (eI k z)=true:=λ_=>rfl
theorem bO{k:IntKind}:∀z,aG (eI k z)=true:=λ_=>rfl
theorem aHx{k:IntKind}:∀z,aN (eI k z)=true:=λ_=>rfl
theorem bWv:∀z,noOwn (eB z)=true:=λ_=>rfl
theorem aZj:∀z,aS (eB z)=true:=λ_=>rfl
theorem aEc:∀z,aG (eB z)=true:=λ_=>rfl
theorem cEy:∀z,aN (eB z)=true:=λ_=>rfl
theorem aTj:∀{as bs:List AV},aS as=true->aS bs=true->aS (as++bs)=true
 |[],_,_,h=>h
 |a::as,bs,h,k=>by simp only[aS,n7,x5]at h ⊢;exact⟨h.1,aTj h.2 k⟩
theorem aVi:∀{as bs:List AV},aG as=true->aG bs=true->aG (as++bs)=true
 |[],_,_,h=>h
 |a::as,bs,h,k=>by simp only[aG,n7,x5]at h ⊢;exact⟨h.1,aVi h.2 k⟩
theorem aTg:∀{as bs:List AV},aN as=true->aN bs=true->aN (as++bs)=true
 |[],_,_,h=>h
 |a::as,bs,h,k=>by simp only[aN,n7,x5]at h ⊢;exact⟨h.1,aTg h.2 k⟩
theorem bOg{as bs:List AV}(h:noOwn as=true)(k:noOwn bs=true):noOwn (as++bs)=true:=by simp only[noOwn,List.all_append,x5]at*;exact⟨h,k⟩
section
variable {T : Type} {c : T → List AV}
theorem bL(h:∀x,aS (c x)=true){xs:List T}:aS (fl c xs)=true:=by
 induction xs with
 |nil=>rfl
 |cons x xs ih=>exact aTj (h x) ih
theorem aC(h:∀x,aG (c x)=true){xs:List T}:aG (fl c xs)=true:=by
 induction xs with
 |nil=>rfl
 |cons x xs ih=>exact aVi (h x) ih
theorem bK(h:∀x,aN (c x)=true){xs:List T}:aN (fl c xs)=true:=by
 induction xs with
 |nil=>rfl
 |cons x xs ih=>exact aTg (h x) ih
theorem eE(h:∀x,noOwn (c x)=true){xs:List T}:noOwn (fl c xs)=true:=by
 induction xs with
 |nil=>rfl
 |cons x xs ih=>exact bOg (h x) ih
end
end
section
variable {P : Program} {env : List AV} {H H' : Heap} {n n' : Nat} {K : AV → Heap → Nat → Prop} {T : Type} [Inhabited T] {c : T → List AV} {sz : Nat} {xs ys : List T}
theorem aHl(hn:∀x,noOwn (c x)=true){r:Nat}{π:List Nat}{k:Nat}:refer r π k (fl c xs)=fl c xs:=iF (eE hn)
theorem aQm{b:Bool}{p:Prop}(h:b=true)(hp:p):bc b p:=by subst h;exact hp
theorem bLx{a b m:Nat}{ag:Bool}(h:a<=b)(k:ag=false->m=1):(qZH a b&&(ag||f9 m 1))=true:=by simp only[x5,r9,qQV,qJZ];refine⟨h,?_⟩;cases ag;{exact .inr (k rfl)};{exact .inl rfl}
theorem oP{a b i off k:Nat}(hs:b=a*sz)(hi:i<a)(hf:off+k<=sz):i*sz+off+k<=b:=by have:(i+1)*sz<=a*sz:=qQZ sz hi;rw[qZQ,Nat.one_mul]at this;omega
theorem aWs {a:Opd} {r o i off:Nat} {π:List Nat} {e:TypeId} {v:AV} (hc:∀x,(c x).length=sz) (ha:a.val env= .ptr r π o) (hg:H.get r π=some ⟨e,fl c xs⟩) (ho:o=i*sz+off) (hi:i<xs.length) (hf:off+1<=sz)
 (hv:((c (xs.getD i default)).getD off .unk).at r π o=v) (hk:Hld (K v H n)):Hld (yop P env H n K (.load false 1 a)):=by
 constructor;have hk:=hk.un;simp only[yop,ha,hg];refine aQm (bLx (by rw[bE hc,ho];exact oP rfl hi hf) λ_=>rfl) ?_;simp only[bY];rw[eS,p9,ho,vO hc hi hf,<-ho,hv];exact hk
theorem bBt {a:Opd} {o i off:Nat} {v:AV} (hc:∀x,(c x).length=sz) (ha:a.val env= .bptr (fl c xs) o) (ho:o=i*sz+off) (hi:i<xs.length) (hf:off+1<=sz)
 (hv:(c (xs.getD i default)).getD off .unk=v) (hk:Hld (K v H n)):Hld (yop P env H n K (.load false 1 a)):=by
 constructor;have hk:=hk.un;simp only[yop,ha];refine aQm (bLx (by rw[bE hc,ho];exact oP rfl hi hf) λ_=>rfl) ?_;simp only[bY];rw[ho,vO hc hi hf,hv];exact hk
theorem aYt {a:Opd} {o i off k:Nat} {v:AV} (hc:∀x,(c x).length=sz) (ha:a.val env= .bptr (fl c xs) o) (ho:o=i*sz+off) (hi:i<xs.length) (hf:off+k<=sz)
 (hv:AV.agg (((c (xs.getD i default)).drop off).take k)=v) (hk:Hld (K v H n)):Hld (yop P env H n K (.load true k a)):=by
 constructor;have hk:=hk.un;simp only[yop,ha];refine aQm (bLx (by rw[bE hc,ho];exact oP rfl hi hf) λh=>by cases h) ?_;simp only[bY];rw[ho,aTv hc hi hf,hv];exact hk
theorem aNi{x i:Opd}{k:Int}{kd:IntKind}(hc:∀x,(c x).length=sz)(hp:0<sz)(hx:x.val env= .bor xs.length (fl c xs))(hi:i.val env= .int kd k)(h:0<=k/\k<xs.length)(hk:Hld (K (.bptr (fl c xs) (k.toNat*sz)) H n)):Hld (yop P env H n K (.iadr sz x i)):=by constructor;have hk:=hk.un;simp only[yop,hx,hi];refine⟨⟨h.1,h.2,?_⟩,hk⟩;rw[bE hc];exact Nat.mul_lt_mul_of_pos_right (by omega) hp
theorem bSk {a x:Opd} {r o i off m:Nat} {π:List Nat} {e:TypeId} {vs:List AV} {y:T} (hc:∀x,(c x).length=sz) (ha:a.val env= .ptr r π o) (hx:(x.val env).cells=some vs) (hm:vs.length=m) (hg:H.get r π=some ⟨e,fl c xs⟩) (ho:o=i*sz+off) (hi:i<xs.length) (hf:off+m<=sz)
 (hy:aT (c (xs.getD i default)) off vs=c y) (hp:H.put r π (fl c (xs.set i y))=H') (hk:Hld (K .und H' n)):Hld (yop P env H n K (.store m a x)):=by
 constructor;have hk:=hk.un;simp only[yop,ha,hx,hg];refine aQm ?_ ?_;{simp only[x5,qQV,qJZ];exact⟨hm,by rw[bE hc,ho];exact oP rfl hi hf⟩};{rw[ho,aJy hc hi (by rw[hm];exact hf) hy,hp];exact hk}
theorem aUk(hc:∀x,(c x).length=sz):cY H sz (.bor xs.length (fl c xs))=some (xs.length,fl c xs):=by simp only[cY];rw[if_pos (bE hc)]
theorem bPi{r o k i:Nat}{π:List Nat}{e:TypeId}(hc:∀x,(c x).length=sz)(hn:∀x,noOwn (c x)=true)(hg:H.get r π=some ⟨e,fl c xs⟩)(ho:o=i*sz)(hi:i+k<=xs.length):cY H sz (.sref r π o k sz)=some (((xs.drop i).take k).length,fl c ((xs.drop i).take k)):=by simp only[cY,hg];rw[if_pos];{rw[aHl hn,ho,qI hc,oI hc];congr 2;simp;omega};{refine⟨trivial,?_⟩;rw[bE hc,ho,<-qZQ];exact qQZ sz hi}
theorem aZw{r k:Nat}{π:List Nat}{e:TypeId}(hk:k=xs.length)(hc:∀x,(c x).length=sz)(hn:∀x,noOwn (c x)=true)(hg:H.get r π=some ⟨e,fl c xs⟩):cY H sz (.sref r π 0 k sz)=some (xs.length,fl c xs):=by subst hk;have:=bPi (k:=xs.length) (o:=0) (i:=0) hc hn hg (by simp) (by omega);simpa using this
theorem bOs{r:Nat}{π:List Nat}{e:TypeId}(hc:∀x,(c x).length=sz)(hg:H.get r π=some ⟨e,fl c xs⟩):aGg H e sz (.sref r π 0 xs.length sz)=some (xs.length,fl c xs,r,π):=by simp only[aGg,hg];rw[if_pos ⟨trivial,trivial,trivial,bE hc⟩]
theorem cCj {e:TypeId} {bytes r k:Nat} {π:List Nat} {z:List AV} {s x:Opd} (hl:k=xs.length) (hc:∀x,(c x).length=sz) (hx:cY H sz (x.val env)=some (ys.length,fl c ys)) (hs:s.val env= .sref r π 0 k sz) (hg:H.get r π=some ⟨e,fl c xs⟩)
 (hb:(xs.length+ys.length)*bytes<=2^47/\xs.length+ys.length<=2^47) (hk:Hld (K (.sref n [] 0 (xs++ys).length sz) ((n,some ⟨e,fl c (xs++ys)⟩)::H.kill r π) (n+1))):Hld (yop P env H n K (.app e sz bytes z s x)):=by
 constructor;have hk:=hk.un;subst hl;have key:xop P env H n K (.app e sz bytes z s x):=(by simp only[xop,hx,hs,bOs hc hg];refine⟨hb,?_⟩;rw[zK,<-y5];exact hk);exact key
theorem bJg {e:TypeId} {bytes:Nat} {z:List AV} {s x:Opd} (hx:cY H sz (x.val env)=some (ys.length,fl c ys)) (hs:s.val env= .nil\/s.val env= .emp) (hb:ys.length*bytes<=2^47/\ys.length<=2^47)
 (hk:Hld (K (.sref n [] 0 ys.length sz) ((n,some ⟨e,fl c ys⟩)::H) (n+1))):Hld (yop P env H n K (.app e sz bytes z s x)):=by
 constructor;have hk:=hk.un;have key:xop P env H n K (.app e sz bytes z s x):=(by simp only[xop,hx];rcases hs with hs|hs<;>rw[hs]<;>exact⟨hb,hk⟩);exact key
theorem aZn{e:TypeId}{bytes:Nat}{z:List AV}{l:Opd}{k:Int}{d:T}(hl:l.val env= .int .i64 k)(h0:0<=k/\k*bytes<=2^47/\k<=2^47)(hz:z=c d)(hk:Hld (K (.sref n [] 0 (j0 k.toNat d).length sz) ((n,some ⟨e,fl c (j0 k.toNat d)⟩)::H) (n+1))):
 Hld (yop P env H n K (.mk e sz bytes z l)):=by
 constructor;have hk:=hk.un;have key:xop P env H n K (.mk e sz bytes z l):=(by simp only[xop,hl];refine⟨h0,?_⟩;rw[aCr hz];rw[l6]at hk;exact hk);exact key
theorem bNg {x:Opd} {lo hi:Option Opd} {l h:Int} (hc:∀x,(c x).length=sz) (hx:x.val env= .bor xs.length (fl c xs)) (hl:dY env lo 0=some l) (hh:dY env hi xs.length=some h) (hb:0<=l/\l<=h/\h<=xs.length)
 (hk:Hld (K (.bor ((xs.drop l.toNat).take (h.toNat-l.toNat)).length (fl c ((xs.drop l.toNat).take (h.toNat-l.toNat)))) H n)):Hld (yop P env H n K (.slc sz x lo hi)):=by
 constructor;have hk:=hk.un;have key:xop P env H n K (.slc sz x lo hi):=(by simp only[xop,hl,hx,hh];refine⟨⟨bE hc,hb⟩,?_⟩;rw[qI hc,oI hc];have:((xs.drop l.toNat).take (h.toNat-l.toNat)).length=h.toNat-l.toNat:=(by simp;omega);rw[this]at hk;exact hk);exact key
theorem bBu {x:Opd} {lo hi:Option Opd} {l h:Int} {r o k:Nat} {π:List Nat} (hx:x.val env= .sref r π o k sz) (hl:dY env lo 0=some l) (hh:dY env hi k=some h) (hb:0<=l/\l<=h/\h<=k)
 (hk:Hld (K (.sref r π (o+l.toNat*sz) (h.toNat-l.toNat) sz) H n)):Hld (yop P env H n K (.slc sz x lo hi)):=by
 constructor;have hk:=hk.un;have key:xop P env H n K (.slc sz x lo hi):=(by simp only[xop,hl,hx,hh];exact⟨⟨trivial,hb⟩,hk⟩);exact key
def over(xs:List T)(o k:Nat)(ys:List T):List T:=xs.take o++(ys.take (min k ys.length)++xs.drop (o+min k ys.length))
theorem aKx{xs:List T}{o k:Nat}{ys:List T}(h:o+k<=xs.length):(over xs o k ys).length=xs.length:=by simp[over];omega
theorem aHu{xs:List T}{o k:Nat}{ys:List T}:(over xs o k ys).length=min o xs.length+(min (min k ys.length) ys.length+(xs.length-(o+min k ys.length))):=by simp[over]
theorem hC:∀{vs cs:List AV} {o:Nat},o+vs.length<=cs.length->aT cs o vs=cs.take o++(vs++cs.drop (o+vs.length))
 |[],cs,o,_=>by simp[aT]
 |v::vs,cs,o,h=>by simp only[y7]at h;rw[aT,hC (by simp;omega)];apply qXW;intro i;simp only[List.getElem?_append,m7,t7,qQJ,o9,y7,t9];by_cases h1:i<o;{simp[show i<min (o+1) cs.length by omega,show i<min o cs.length by omega,show i<o+1 by omega,h1,show¬o=i by omega]};{by_cases h2:i=o;{subst h2;have m1:min i cs.length=i:=(by omega);simp[show i<min (i+1) cs.length by omega,show i<cs.length by omega,m1]};{have e1:¬i<min (o+1) cs.length:=(by omega);have e2:¬i<min o cs.length:=(by omega);simp only[e1,e2,if_false];have m1:min (o+1) cs.length=o+1:=(by omega);have m2:min o cs.length=o:=(by omega);rw[m1,m2];by_cases h3:i-(o+1)<vs.length;{simp[h3,show i-o<vs.length+1 by omega,show i-o=(i-(o+1))+1 by omega]};{simp only[h3,if_false,show¬i-o<vs.length+1 by omega];rw[if_neg (by omega)];congr 1;omega}}}
theorem aLe {d s:Opd} {r o k i:Nat} {π:List Nat} {e:TypeId} (hc:∀x,(c x).length=sz) (hs:cY H sz (s.val env)=some (ys.length,fl c ys)) (hd:d.val env= .sref r π o k sz) (hg:H.get r π=some ⟨e,fl c xs⟩) (ho:o=i*sz) (hi:i+k<=xs.length)
 (hp:H.put r π (fl c (over xs i k ys))=H') (hk:Hld (K (.int .i64 (min k ys.length:Nat)) H' n)):Hld (yop P env H n K (.cpy sz d s)):=by
 constructor;have hk:=hk.un
 have key:xop P env H n K (.cpy sz d s):=by
  simp only[xop,hs,hd,hg];refine⟨⟨trivial,?_⟩,?_⟩;{rw[bE hc,ho,<-qZQ];exact qQZ sz hi}
  · have:aT (fl c xs) o ((fl c ys).take (min k ys.length*sz))=fl c (over xs i k ys):=by
     rw[oI hc,ho];have hl:(fl c (ys.take (min k ys.length))).length=min k ys.length*sz:=(by rw[bE hc,m7];congr 1;omega);rw[hC (by rw[hl,bE hc,<-qZQ];exact qQZ sz (by omega)),hl,<-qZQ,qI hc,oI hc,zK,zK];rfl
    rw[this,hp];exact hk
 exact key
theorem gZ{f:FuncId}{as:List Opd}{args':List AV}{r v:AV}{Hr:Heap}(hp:Fn P f args' r)(hc:Cloz H (as.map (·.val env)) args')(h1:r.noRef=true)(h2:r.noBor=true)(hn:bM n r=(v,Hr,n'))(hk:Hld (K v (Hr++H) n')):Hld (yop P env H n K (.call f as)):=by constructor;have hk:=hk.un;have key:xop P env H n K (.call f as):=(by have:=Inl.of_fn_read (n:=n) hc hp h1 h2;rw[hn]at this;exact⟨_,_,_,this,hk⟩);exact key
theorem aIk{f:FuncId}{as:List Opd}{args':List AV}{r v:AV}{Hr:Heap}(hp:Fn P f args' r)(hc:Cloz [] (as.map (·.val env)) args')(h1:r.noRef=true)(hn:bM n r=(v,Hr,n'))(hk:Hld (K v (Hr++H) n')):Hld (yop P env H n K (.call f as)):=by constructor;have hk:=hk.un;have key:xop P env H n K (.call f as):=(by have:=Inl.of_fn0 (H:=H) (n:=n) hc hp h1;rw[hn]at this;exact⟨_,_,_,this,hk⟩);exact key
theorem aDr{f:FuncId}{as:List Opd}{r:AV}(hp:Inl P f (as.map (·.val env)) H n r H' n')(hk:Hld (K r H' n')):Hld (yop P env H n K (.call f as)):=by constructor;have hk:=hk.un;have key:xop P env H n K (.call f as):=⟨_,_,_,hp,hk⟩;exact key
theorem mJ{as:List Opd}{vs args':List AV}(h:as.map (·.val env)=vs)(hc:Cloz H vs args'):Cloz H (as.map (·.val env)) args':=by rw[h];exact hc
theorem hO:Cloz H [] []:=rfl
theorem fE{x y:AV}{as bs:List AV}(h:Clo H x y)(k:Cloz H as bs):Cloz H (x::as) (y::bs):=⟨y,bs,rfl,h,k⟩
theorem rW{k:Nat}{cs:List AV}(h:aS cs=true):(AV.bor k cs).clean=true:=by simpa[AV.clean]using h
theorem mX{cs:List AV}(h:aS cs=true):(AV.agg cs).clean=true:=by simpa[AV.clean]using h
theorem rpv{x:Opd}{v:AV}{q:Option (Nat×List AV)}(h:x.val env=v)(k:cY H sz v=q):cY H sz (x.val env)=q:=by rw[h];exact k
theorem aE{x:AV}(h:x.clean=true):Clo H x x:= .clean x h
theorem yY:Clos H [] []:= .nil
theorem aJ{x y:AV}{as bs:List AV}(h:Clo H x y)(k:Clos H as bs):Clos H (x::as) (y::bs):= .cons x y as bs h k
theorem bGi{as bs:List AV}(h:Clos H as bs):Clo H (.agg as) (.agg bs):= .agg as bs h
theorem aDz:∀{as:List AV},aS as=true->Clos H as as
 |[],_=> .nil
 |x::as,h=>by simp only[aS,x5]at h;exact .cons _ _ _ _ (.clean x h.1) (aDz h.2)
theorem eT{r k:Nat}{π:List Nat}{e:TypeId}(hk:k=xs.length)(hc:∀x,(c x).length=sz)(hn:∀x,noOwn (c x)=true)(hcl:∀x,aS (c x)=true)(hg:H.get r π=some ⟨e,fl c xs⟩):Clo H (.sref r π 0 k sz) (.bor xs.length (fl c xs)):=by subst hk;refine .sref r π 0 _ _ sz _ _ hg (by rw[p9,bE hc];exact k9 _) rfl ?_;rw[aHl hn,List.drop_zero,qQX (by rw[bE hc];exact k9 _)];exact aDz (bL hcl)
theorem bVa{r o k i:Nat}{π:List Nat}{e:TypeId}(hc:∀x,(c x).length=sz)(hn:∀x,noOwn (c x)=true)(hcl:∀x,aS (c x)=true)(hg:H.get r π=some ⟨e,fl c xs⟩)(ho:o=i*sz)(hi:i+k<=xs.length):
 Clo H (.sref r π o k sz) (.bor ((xs.drop i).take k).length (fl c ((xs.drop i).take k))):=by
 refine .sref r π o _ _ sz _ _ hg (by rw[bE hc,ho,<-qZQ];exact qQZ sz hi) (by simp;omega) ?_;rw[aHl hn,ho,qI hc,oI hc];exact aDz (bL hcl)
section
variable {m i j : Nat} {b : LCode} {Q : Post}
theorem aDe(h:Aw P m b Q env H n):Post.then P m b Q .normal env H n:=h
theorem aDs(h:Q .ret env H n):Post.then P m b Q .ret env H n:=h
theorem bZx(h:Q (.exit i) env H n):Post.then P m b Q (.exit i) env H n:=h
theorem bMy(h:Q .normal env H n):Post.inBlock i Q .normal env H n:=h
theorem cEr(h:Q .ret env H n):Post.inBlock i Q .ret env H n:=h
theorem bWr(h:Q .normal env H n):Post.inBlock i Q (.exit i) env H n:=by simpa[Post.inBlock]using h
theorem cEv(hne:j≠i)(h:Q (.exit j) env H n):Post.inBlock i Q (.exit j) env H n:=by simpa[Post.inBlock,hne]using h
theorem aRz{ρ:Nat->Option Nat}:RL ρ n env []:=trivial
theorem bJw{ρ:Nat->Option Nat}{v u:AV}{l:List (Nat×AV)}(he:env.getD i .unk=u)(h:Ren ρ n v u)(k:RL ρ n env l):RL ρ n env ((i,v)::l):=⟨by rw[he];exact h,k⟩
end
inductive Conds : List Prop → Prop
 |nil:Conds []
 |cons {c:Prop} {cs:List Prop} (h:c) (t:Conds cs):Conds (c::cs)
def aFd:List Prop->Prop->Prop
 |[],p=>p
 |c::cs,p=>c/\aFd cs p
theorem yN:∀{cs:List Prop} {p:Prop},Conds cs->p->aFd cs p
 |[],_,_,hp=>hp
 |_::_,_,.cons h t,hp=>⟨h,yN t hp⟩
section
variable {K0 : List AV → Heap → Nat → Prop} {E E' : List AV} {L L' : List LOper} {cs : List Prop} {ls rs : List Nat} {Kq : List AV → Prop} {M : List Nat} {n0 : Nat} {fs fs' : Fresh} {Kd : DK} {os : List LOper} {d : Option Nat} {op : LOp} {tail : List LOper}
def bDf:LOp->Bool
 | .bsl _ _ _ _ _=>true
 | .fresh _ _=>true
 |_=>false
theorem yc{pre:List LOper}(hL:L=pre++L')(h:∀K:List AV->Heap->Nat->Prop,bW P K pre E H n=aFd cs (K E' H' n'))(hc:Conds cs)(hk:Hld (bW P K0 L' E' H' n')):Hld (bW P K0 L E H n):=⟨by rw[hL,bDk,h];exact yN hc hk.un⟩
theorem yct(h:∀K,bW P (TK ls rs K) L E H n=aFd cs (K E' H' n'))(hc:Conds cs)(hk:K0 E' H' n'):Hld (bW P (TK ls rs K0) L E H n):=⟨by rw[h];exact yN hc hk⟩
theorem yce(h:∀K:List AV->Heap->Nat->Prop,bW P K L E H n=aFd cs (K E' H' n'))(hc:Conds cs)(hk:K0 E' H' n'):Hld (bW P K0 L E H n):=⟨by rw[h];exact yN hc hk⟩
theorem yso(hL:L=⟨d,op,none⟩::os)(hk:Hld (yop P E H n (λv H' n'=>bW P K0 os (put E d v) H' n') op)):Hld (bW P K0 L E H n):=by subst hL;exact⟨hk.un⟩
theorem ysg{t:Nat}{want:Bool}(hL:L=⟨d,op,some (t,want)⟩::os)(ht:E.getD t .unk= .bool want)(hk:Hld (yop P E H n (λv H' n'=>bW P K0 os (put E d v) H' n') op)):Hld (bW P K0 L E H n):=by constructor;have hk:=hk.un;subst hL;unfold bW;simp only[ht];rw[aSc];simpa using hk
theorem ybs{t:Nat}{b v:Bool}(h:b=v)(he:E.getD t .unk= .bool b)(hk:Hld (bW P K0 L (E.set t (.bool v)) H n)):Hld (bW P K0 L E H n):=by have:E.set t (.bool v)=E:=(by apply qXW;intro i;rw[o9];split;{rename_i e;subst e;rw[<-h,<-he];split;{rename_i hl;simp[x8,hl]};{rename_i hl;simp[hl]}};{rfl});rwa[this]at hk
theorem qc{pre:List LOper}(hL:L=pre++L')(h:∀K:List AV->Prop,yqs P H n K pre E=aFd cs (K E'))(hc:Conds cs)(hk:Hld (yqs P H n Kq L' E')):Hld (yqs P H n Kq L E):=⟨by rw[hL,bHe,h];exact yN hc hk.un⟩
theorem qso(hL:L=⟨d,op,none⟩::os)(hk:Hld (yq P E H n (λv=>yqs P H n Kq os (put E d v)) op)):Hld (yqs P H n Kq L E):=by subst hL;exact⟨hk.un⟩
theorem qtt(h:∀K,yqs P H n (TT P tail K H n) L E=aFd cs (bW P K tail E' H n))(hc:Conds cs)(hk:Hld (bW P K0 tail E' H n)):Hld (yqs P H n (TT P tail K0 H n) L E):=⟨by rw[h];exact yN hc hk.un⟩
theorem dc{pre:List LOper}(hL:L=pre++L')(h:∀K:DK,yds P M n0 K pre E H n fs=aFd cs (K E' H' n' fs'))(hc:Conds cs)(hk:Hld (yds P M n0 Kd L' E' H' n' fs')):Hld (yds P M n0 Kd L E H n fs):=⟨by rw[hL,bHt,h];exact yN hc hk.un⟩
theorem dct(h:∀K,yds P M n0 (TD P tail K) L E H n fs=aFd cs (bW P K tail E' H' n'))(hc:Conds cs)(hk:Hld (bW P K0 tail E' H' n')):Hld (yds P M n0 (TD P tail K0) L E H n fs):=⟨by rw[h];exact yN hc hk.un⟩
theorem dso(hL:L=⟨d,op,none⟩::os)(hf:bDf op=false)(hk:Hld (ydo P M n E H n (λv H' n'=>yds P M n0 Kd os (put E d v) H' n' fs) op)):Hld (yds P M n0 Kd L E H n fs):=by
 subst hL
 cases op<;>first
  |exact⟨hk.un⟩
  |cases hf
theorem aZi{K:AV->Heap->Nat->Prop}(hq:op.quiet=true)(hs:aUe M n0 (gV E op)=true)(h:Hld (yop P E H n (λv _ _=>K v H n) op)):Hld (ydo P M n0 E H n K op):=by constructor;unfold ydo;rw[hq];exact aQm hs h.un
theorem yM{K:AV->Heap->Nat->Prop}(hq:op.quiet=false)(h:Hld (yop P E H n (λv H' n'=>(n<=n'/\Agr M n0 H H')/\K v H' n') op)):Hld (ydo P M n0 E H n K op):=by constructor;unfold ydo;rw[hq];exact h.un
theorem cIb{Kq:AV->Prop}{op:LOp}(hq:op.quiet=true)(h:Hld (yop P env H n (λv _ _=>Kq v) op)):Hld (yq P env H n Kq op):=by
 cases op<;>first
  |exact⟨h.un⟩
  |cases hq
theorem bHr:∀{x:AV} {k:Nat},(∀p∈(bM k x).2.1,k<=p.1):=by
 have h1:∀{x:AV} {k:Nat},(∀p∈(eG k x).2.1,k<=p.1)/\k<=(eG k x).2.2:=by intro x k;cases x<;>simp[eG]
 have h2:∀{xs:List AV} {k:Nat},(∀p∈(eV k xs).2.1,k<=p.1)/\k<=(eV k xs).2.2:=by
  intro xs;induction xs with
  |nil=>intro k;simp[eV]
  |cons x xs ih=>
   intro k;simp only[eV,List.mem_append];have a:=h1 (x:=x) (k:=k);have b:=ih (k:=(eG k x).2.2);refine⟨?_,qQQ a.2 b.2⟩
   rintro p (h|h)
   {exact qQQ a.2 (b.1 p h)};{exact a.1 p h}
 have h3:∀{x:AV} {k:Nat},(∀p∈(eL k x).2.1,k<=p.1)/\k<=(eL k x).2.2:=by
  intro x k;cases x
  case agg vs=>exact h2
  all_goals exact h1
 have h4:∀{xs:List AV} {k:Nat},(∀p∈(dW k xs).2.1,k<=p.1)/\k<=(dW k xs).2.2:=by
  intro xs;induction xs with
  |nil=>intro k;simp[dW]
  |cons x xs ih=>
   intro k;simp only[dW,List.mem_append];have a:=h3 (x:=x) (k:=k);have b:=ih (k:=(eL k x).2.2);refine⟨?_,qQQ a.2 b.2⟩
   rintro p (h|h)
   {exact qQQ a.2 (b.1 p h)};{exact a.1 p h}
 intro x k;cases x
 case tup vs=>exact h4.1
 all_goals exact h3.1
theorem bXm{Hr:Heap}(h:∀p∈Hr,n0<=p.1):Agr M n0 H (Hr++H):=by
 induction Hr with
 |nil=>exact Agr.refl
 |cons p Hr ih=>obtain⟨k,t⟩:=p;exact(ih λq hq=>h q (by simp[hq])).trans (Agr.cons (h (k,t) (by simp)))
theorem uU{r v:AV}{Hr:Heap}(hn:bM n r=(v,Hr,n'))(h:n0<=n):Agr M n0 H (Hr++H):=bXm λp hp=>qQQ h (bHr (x:=r) p (by rw[hn];exact hp))
end
end
def fC(H:Heap):List Nat:=H.map Prod.fst
theorem uZ{r:Nat}:∀{H:Heap},(H.get1 r).isSome=true->r∈fC H
 |[],h=>by simp[Heap.get1]at h
 |(k,t)::H,h=>by simp only[Heap.get1]at h;split at h;{rename_i e;subst e;simp[fC]};{have:=uZ h;simp only[fC,m5,g8]at this ⊢;exact .inr this}
theorem aJe{ρ:Nat->Option Nat}:∀{l:List Nat},dH (l.map ρ)=true->∀r∈l,∀r'∈l,∀j,ρ r=some j->ρ r'=some j->r=r'
 |[],_,_,h,_,_,_,_,_=>by cases h
 |x::l,hn,r,hr,r',hr',j,e,e'=>by have hn2:dH (l.map ρ)=true:=(by simp only[m5]at hn;cases h:ρ x<;>simp_all [dH]);have no:∀y∈l,ρ x=some j->ρ y≠some j:=(by intro y hy hx hy2;simp only[m5,hx,dH,x5,u0,qJX,decide_eq_false_iff_not]at hn;exact hn.1 (by rw[<-hy2];exact List.mem_map_of_mem hy));rcases g8.1 hr with e1|h1<;>rcases g8.1 hr' with e2|h2;{rw[e1,e2]};{rw[e1]at e;exact absurd e' (no r' h2 e)};{rw[e2]at e';exact absurd e (no r h1 e')};{exact aJe hn2 r h1 r' h2 j e e'}
theorem Ent.list2{m n n2:Nat}{xs2 xs:List AV}{H2 H:Heap}(L:List (Option Nat))(hd:dH ((fC H2).map (rho L))=true)(hp:aUb m L=true)(h2:m<=n2)(h3:Rens (rho L) n2 xs2 xs)(h4:HS (rho L) n2 H H2):Ent m xs2 H2 n2 xs H n:=Ent.sub (rho L) (λi hi=>by simp only[aUb,w5,f8,beq_iff_eq]at hp;exact hp i hi) h2 h3 ⟨h4.root,λr r' j h1 h2 e1 e2=>aJe hd r (uZ h1) r' (uZ h2) j e1 e2⟩
theorem Inl.start {P:Program} {f:FuncId} {lf:LFun} {args:List AV} {H0 Hr:Heap} {r:AV} {m k:Nat} (hl:kP P f=some lf) (ls rs:List Nat) {E:List AV} {H1:Heap} (hE:forget ls 0 (args++j0 (lf.ntmps-args.length) .und)=E) (hH:H0.norm rs=H1)
 (h:Aw P m lf.body (aTk m r Hr k lf.res) E H1 m):Inl P f args H0 m r Hr k:=by
 refine Inl.of_aw hl ?_;refine Aw.tidy ls rs ?_;rw[hE,hH];exact h
section
variable {Φ Φ' : Fz} {n n' : Nat} {β β' : Spots} {H H' : Heap} {w w' : World}
theorem RH.side {A B:Heap} (hA:RH Φ n β A w) (hB:RH Φ n β B w) (hab:∀r,A.has r=true->B.get1 r=none)
 (hsep:∀r π r' π',(A.get r π).isSome=true->(B.get r' π').isSome=true->(β r π).ex=true->(β r' π').ex=true->(β r π).b≠(β r' π').b):RH Φ n β (A++B) w:=by
 have key:∀r π t,Heap.get (A++B) r π=some t->A.get r π=some t\/B.get r π=some t:=(by intro r π t h;(cases e:A.has r with|true=>left;rw[<-h];exact(lI (by rw[iX,e];rfl) π).symm|false=>right;rw[<-h];exact(lI (by rw[iX,e];rfl) π).symm));refine⟨λr π t h=>(key r π t h).elim (hA.root r π t) (hB.root r π t),λr π r' π' h1 h2 hx hx' he=>?_⟩;obtain⟨t,ht⟩:=y3.1 h1;obtain⟨t',ht'⟩:=y3.1 h2;rcases key r π t ht with a|a<;>rcases key r' π' t' ht' with b|b;{exact hA.apart r π r' π' (by simp[a]) (by simp[b]) hx hx' he};{exact absurd he (hsep r π r' π' (by simp[a]) (by simp[b]) hx hx')};{exact absurd he.symm (hsep r' π' r π (by simp[b]) (by simp[a]) hx' hx)};{exact hB.apart r π r' π' (by simp[a]) (by simp[b]) hx hx' he}
end
def eW(pl:List Nat)(m k n i:Nat):Option Nat:=match pl.idxOf? i with
 |some j=>some j
 |none=>if n<=i then some (i-n+m)else some (k+1+i)
def kO(pl:List Nat)(H:Heap):Heap:=pl.map (λr=>(r,none))++H
theorem qH{pl:List Nat}{H:Heap}{r:Nat}:(kO pl H).get1 r=if r∈pl then none else H.get1 r:=by
 unfold kO;induction pl with
 |nil=>simp
 |cons p pl ih=>simp only[m5,n7,Heap.get1,g8];by_cases e:p=r;{simp[e]};{rw[if_neg e,ih];by_cases h:r∈pl;{simp[h]};{have:¬r=p:=λx=>e x.symm;simp[h,this]}}
theorem aIb{pl:List Nat}{H:Heap}{r:Nat}{π:List Nat}{t:Root}(h:(kO pl H).get r π=some t):r∉pl/\H.get r π=some t:=by have h1:r∉pl:=(by intro hm;have:(kO pl H).get r []=none:=(by show(kO pl H).get1 r=none;rw[qH,if_pos hm]);have:=eO this π;rw[r8]at this;rw[this]at h;cases h);refine⟨h1,?_⟩;rw[<-h];exact(lI (by rw[qH,if_neg h1]) π).symm
theorem aBs:∀{pl:List Nat} {i j:Nat},pl.idxOf? i=some j->pl[j]? =some i
 |[],i,j,h=>by simp at h
 |p::pl,i,j,h=>by rw[List.idxOf?_cons]at h;split at h;{rename_i e;cases h;simpa using e};{obtain⟨j',h1,rfl⟩:=w9.1 h;simpa using aBs h1}
theorem Inl.frame {P:Program} {f:FuncId} {args args':List AV} {H H0 Hp Hp':Heap} {v v':AV} {m k n n':Nat} (pl:List Nat) (hc:Inl P f args H0 m v Hp k)
 (hm:pl.length=m) (hn:∀r∈pl,r<n) (hnn:n'=n+(k-m))
 (ha:Rens (λi=>pl[i]?) m args args') (h0:HSub (λi=>pl[i]?) m H0 H)
 (hv:Ren (eW pl m k n) n' v' v) (hh:HSub (eW pl m k n) n' Hp' Hp) (hk:∀r,Hp'.has r=true->r∈pl\/n<=r):
 Inl P f args' H n v' (Hp'++kO pl H) n':=by
 intro Φ w β vs hK hH hvs;have a1:RVt Φ m (fD (λi=>pl[i]?) β) args vs:=RVt.ren ha hvs;have a2:RH Φ m (fD (λi=>pl[i]?) β) H0 w:=hH.ren h0;let mine:Nat->Prop:=λb=>∃r π t,r∈pl/\H.get r π=some t/\(β r π).ex=true/\(β r π).b=b;let Φ0:Fz:=λb=>open Classical in if mine b then none else Φ.all w false b
 have z1:∀b,mine b->Φ0 b=none:=λb h=>by simp only[Φ0];rw[if_pos h]
 have z2:∀b,¬mine b->Φ0 b=Φ.all w false b:=λb h=>by simp only[Φ0];rw[if_neg h]
 have z3:∀b,mine b->Φ b=none:=by
  rintro b ⟨r,π,t,_,h2,h3,rfl⟩
  exact(hH.own h2 h3).1
 have le0:Φ.le Φ0:=λb x h=>by rw[z2 b (λhm=>by rw[z3 b hm]at h;cases h)];exact Fz.le_all b x h
 have keep0:Keep Φ0 w:=λb x h=>by by_cases hb:mine b;{rw[z1 b hb]at h;cases h};{rw[z2 b hb]at h;exact hK.all b x h}
 have a3:RVt Φ0 m (fD (λi=>pl[i]?) β) args vs:=a1.more le0 (k9 _) λ_ _=>rfl;have inH:∀r π t,H0.get r π=some t->(fD (λi=>pl[i]?) β r π).ex=true->mine (fD (λi=>pl[i]?) β r π).b:=(by intro r π t hr hx;obtain⟨_,hcase⟩:=h0.node hr;rcases hcase with⟨e,rfl,_⟩|⟨j,t',e,hj,_,_⟩;{have e':pl[r]? =none:=e;simp[fD,e']at hx};{have e':pl[r]? =some j:=e;simp only[fD,e']at hx ⊢;exact⟨j,π,t',List.mem_of_getElem? e',hj,hx,rfl⟩});have a4:RH Φ0 m (fD (λi=>pl[i]?) β) H0 w:=a2.kept le0 (k9 _) (λ_ _=>rfl) (λr π t hr hx=>z1 _ (inH r π t hr hx)) λ_ _ _ _ _=>rfl;refine(hc Φ0 w _ vs keep0 a4 a3).mono λe w' ⟨u,Φ1,β1,he,g1,g2,g3,g4,g5,g6,g7⟩=>?_;generalize hΦ2:(λb=>match Φ1 b with|some (true,o)=>some (true,o)|_=>Φ b:Fz)=Φ2;have h2:∀b,Φ2 b=match Φ1 b with|some (true,o)=>some (true,o)|_=>Φ b:=λb=>by rw[<-hΦ2]
 have up:∀b x,Φ b=some x->Φ1 b=some x:=λb x h=>g3 b x (le0 b x h);have le2:Φ.le Φ2:=λb x h=>by rw[h2,up b x h];obtain⟨fl,o⟩:=x;cases fl;{exact h};{rfl}
 have tle2:Φ1.tle Φ2:=λb o h=>by rw[h2,h]
 have keep2:Keep Φ2 w':=λb x h=>by rw[h2]at h;split at h;{rename_i o ho;cases h;exact g4 b _ ho};{exact g4 b x (up b x h)}
 generalize hβ:(λi=>if i<k then β1 i else β (i-(k+1)):Spots)=β1';have l1:∀i,i<k->β1' i=β1 i:=λi hi=>by rw[<-hβ];simp[hi]
 have l2:∀i,β1' (k+1+i)=β i:=λi=>by rw[<-hβ];simp only[];rw[if_neg (by omega)];congr 1;omega
 have g5':RV Φ1 (k+1+n) β1' v u:=g5.more (Fz.le_refl _) (by omega) l1;have g6':RH Φ1 (k+1+n) β1' Hp w':=g6.kept (Fz.le_refl _) (by omega) l1 (λr π t hr hx=>(g6.own hr hx).1) λ_ _ _ _ _=>rfl;have b3:∀i,i<n->fD (eW pl m k n) β1' i=β i:=λi hi=>by funext π;(cases h:pl.idxOf? i with|some j=>have hj:=aBs h;have hjm:j<m:=(by rw[<-hm];exact(n9.1 hj).1);have e:eW pl m k n i=some j:=(by unfold eW;rw[h]);simp only[fD,e];rw[l1 j (o7 hjm g1),g2 j hjm];simp[fD,hj]|none=>have e:eW pl m k n i=some (k+1+i):=(by unfold eW;rw[h];simp only[];rw[if_neg (by omega)]);simp only[fD,e];rw[l2])
 have c0:RH Φ1 n' (fD (eW pl m k n) β1') Hp' w':=g6'.ren hh;have c2:RH Φ2 n' (fD (eW pl m k n) β1') Hp' w':=by refine⟨λr π t h=>?_,c0.apart⟩;obtain⟨d1,d2⟩:=c0.root r π t h;refine⟨d1,d2.imp id λ⟨e1,e2,cur,e3,e4,e5,e6⟩=>⟨e1,?_,cur,e3,e4,e5,e6.moreT tle2 (k9 _) λ_ _=>rfl⟩⟩;rw[h2,e2];show Φ _=none;(cases hphi:Φ (fD (eW pl m k n) β1' r π).b with|none=>rfl|some x=>rw[up _ x hphi]at e2;cases e2)
 have rest:∀r π t,(kO pl H).get r π=some t->(β r π).ex=true->∃o,w.heap[(β r π).b]? =some o/\Φ1 (β r π).b=some (false,o)/\Φ (β r π).b=none:=by
  intro r π t hr hx;obtain⟨d1,d2⟩:=aIb hr;obtain⟨e1,cur,e2,_⟩:=hH.own d2 hx;refine⟨_,e2,?_,e1⟩;refine g3 _ _ ?_;rw[z2];{simp[Fz.all,e1,e2]}
  · rintro⟨r',π',t',f1,f2,f3,f4⟩
    obtain⟨rfl,_⟩:=hH.apart r' π' r π (by simp[f2]) (by simp[d2]) f3 hx f4;exact d1 f1
 have c3:RH Φ2 n' (fD (eW pl m k n) β1') (kO pl H) w':=(by refine(hH.less (H2:=kO pl H) λr π t h=>(aIb h).2).kept le2 (by omega) b3 (λr π t hr hx=>?_) λr π t hr hx=>?_;{obtain⟨o,_,e2,e3⟩:=rest r π t hr hx;rw[h2,e2];exact e3};{obtain⟨o,e1,e2,_⟩:=rest r π t hr hx;rw[e1];exact g4 _ _ e2});refine⟨u,Φ2,fD (eW pl m k n) β1',he,by omega,b3,le2,keep2,(RV.ren hv g5').moreT tle2 (k9 _) λ_ _=>rfl,RH.side c2 c3 (λr hr=>?_) λr π r' π' k1 k2 hx hx' he=>?_,g7⟩
 · rw[qH]
   rcases hk r hr with h|h;{rw[if_pos h]}
   · split
     {rfl}
     · cases e:H.get1 r with
       |none=>rfl
       |some t=>have:=(hH.root r [] t e).1;omega
 {obtain⟨t,ht⟩:=y3.1 k1;obtain⟨t',ht'⟩:=y3.1 k2;have hlt:r'<n:=(hH.root r' π' t' (aIb ht').2).1;rw[b3 r' hlt]at hx' he;obtain⟨o,e1,e2,_⟩:=rest r' π' t' ht' hx';have:=(c0.own ht hx).1;rw[he,e2]at this;cases this}
theorem HSub.of{ρ:Nat->Option Nat}{n2:Nat}{H2 H:Heap}(hd:dH ((fC H2).map ρ)=true)(h:HS ρ n2 H H2):HSub ρ n2 H2 H:=⟨h.root,λr r' j h1 h2 e1 e2=>aJe hd r (uZ h1) r' (uZ h2) j e1 e2⟩
theorem rF:∀{H:Heap} {r:Nat},H.has r=true->r∈fC H
 |[],_,h=>by simp[Heap.has]at h
 |(k,t)::H,r,h=>by simp only[Heap.has,r9,beq_iff_eq]at h;rcases h with h|h;{subst h;simp[fC]};{have:=rF h;simp only[fC,m5,g8]at this ⊢;exact .inr this}
def aFx(pl:List Nat)(n:Nat)(H:Heap):Bool:=(fC H).all λr=>pl.contains r||qZH n r
theorem aPk{pl:List Nat}{n:Nat}{H:Heap}(h:aFx pl n H=true)(r:Nat)(hr:H.has r=true):r∈pl\/n<=r:=by simp only[aFx,w5,r9,qJX,decide_eq_true_eq,qQV]at h;exact h r (rF hr)
def below(pl:List Nat)(n:Nat):Bool:=pl.all λr=>Nat.blt r n
section
variable {P : Program} {env : List AV} {H H' : Heap} {n n' : Nat} {K : AV → Heap → Nat → Prop}
theorem bVt {f:FuncId} {as:List Opd} {args args':List AV} {H0 Hp Hp':Heap} {v v':AV} {m k:Nat} (pl:List Nat) (hc:Inl P f args H0 m v Hp k) (hs:as.map (·.val env)=args')
 (hm:pl.length=m) (hn:below pl n=true) (hnn:n'=n+(k-m)) (ha:Rens (λi=>pl[i]?) m args args') (hd0:dH ((fC H0).map (λi=>pl[i]?))=true) (h0:HS (λi=>pl[i]?) m H H0)
 (hv:Ren (eW pl m k n) n' v' v) (hd:dH ((fC Hp').map (eW pl m k n))=true) (hh:HS (eW pl m k n) n' Hp Hp') (hk:aFx pl n Hp'=true)
 (hK:Hld (K v' (Hp'++kO pl H) n')):Hld (yop P env H n K (.call f as)):=
 aDr (hs▸Inl.frame pl hc hm (λr hr=>by simp only[below,w5]at hn;have:=hn r hr;simp only[Nat.blt,qQV]at this;omega) hnn ha (HSub.of hd0 h0) hv (HSub.of hd hh) (aPk hk)) hK
theorem aLa{pl M:List Nat}{n0:Nat}{Hp':Heap}(h1:pl.all (λr=>M.contains r||qZH n0 r)=true)(h2:(fC Hp').all (λr=>M.contains r||qZH n0 r)=true):Agr M n0 H (Hp'++kO pl H):=by intro r hr hm;simp only[w5,r9,qQV]at h1 h2;have a:Hp'.has r=false:=(by(cases e:Hp'.has r with|false=>rfl|true=>rcases h2 r (rF e)with h|h;{rw[h]at hm;cases hm};{omega}));rw[iX,a];simp only[Bool.false_eq_true,if_false];rw[qH,if_neg];intro hp;rcases h1 r hp with h|h;{rw[h]at hm;cases hm};{omega}
end
mutual
inductive Fr (R : Nat) (cs : List AV) : AV → AV → Prop
 |same (x:AV):Fr R cs x x
 |unk (x:AV):Fr R cs x .unk
 |row (o m sz:Nat) (us:List AV):o+m*sz<=cs.length->us=(cs.drop o).take (m*sz)->Fr R cs (.sref R [] o m sz) (.bor m us)
 |agg (vs us:List AV):Frs R cs vs us->Fr R cs (.agg vs) (.agg us)
 |tup (vs us:List AV):Frs R cs vs us->Fr R cs (.tup vs) (.tup us)
inductive Frs (R : Nat) (cs : List AV) : List AV → List AV → Prop
 |nil:Frs R cs [] []
 |cons (v u:AV) (vs us:List AV):Fr R cs v u->Frs R cs vs us->Frs R cs (v::vs) (u::us)
end
def HF(R:Nat)(cs:List AV)(H:Heap):Heap->Prop
 |[]=>True
 |(r,some t2)::H2=>(r≠R/\∃t,H.get1 r=some t/\t2.e=t.e/\Frs R cs t.cs t2.cs)/\HF R cs H H2
 |(_,none)::H2=>HF R cs H H2
theorem HF.root{R:Nat}{cs:List AV}{H:Heap}:∀{H2:Heap},HF R cs H H2->∀r t2,H2.get1 r=some t2->r≠R/\∃t,H.get1 r=some t/\t2.e=t.e/\Frs R cs t.cs t2.cs
 |[],_,r,t2,h=>by simp[Heap.get1]at h
 |(k,some t)::H2,hs,r,t2,h=>by simp only[Heap.get1]at h;split at h;{rename_i e;subst e;cases h;exact hs.1};{exact HF.root hs.2 r t2 h}
 |(k,none)::H2,hs,r,t2,h=>by simp only[Heap.get1]at h;split at h;{cases h};{exact HF.root (show HF R cs H H2 from hs) r t2 h}
section
variable {R : Nat} {cs : List AV} {Φ Φ' : Fz} {n : Nat} {β : Spots} {H H2 : Heap} {w : World}
theorem Frs.length:∀{xs ys:List AV},Frs R cs xs ys->ys.length=xs.length
 |_,_,.nil=>rfl
 |_,_,.cons _ _ _ _ _ h=>by simp[Frs.length h]
theorem Frs.get:∀{xs ys:List AV},Frs R cs xs ys->∀i,Fr R cs (xs.getD i .unk) (ys.getD i .unk)
 |_,_,.nil,i=>by simpa using Fr.same .unk
 |_,_,.cons v u vs us h1 h2,0=>by simpa using h1
 |_,_,.cons v u vs us h1 h2,i+1=>by simpa using h2.get i
theorem Fr.node{x y:AV}(h:Fr R cs x y):y.node=x.node\/y.node=none:=by
 cases h
 case same=>exact .inl rfl
 all_goals exact .inr rfl
theorem Fr.at{x y:AV}{r:Nat}{π:List Nat}{i:Nat}(h:Fr R cs x y):Fr R cs (x.at r π i) (y.at r π i):=by
 (cases h with|same=>exact .same _|unk=>exact .unk _|row o m sz us h1 h2=>exact .row o m sz us h1 h2|agg vs us h1=>exact .agg vs us h1|tup vs us h1=>exact .tup vs us h1)
theorem Frs.refer{r:Nat}{π:List Nat}:∀{i:Nat} {xs ys:List AV},Frs R cs xs ys->Frs R cs (refer r π i xs) (Go.Proofs.YtcgggihjcelmhaaGreat.refer r π i ys)
 |_,_,_,.nil=> .nil
 |i,_,_,.cons v u vs us h1 h2=>by simp only[Go.Proofs.YtcgggihjcelmhaaGreat.refer];exact .cons _ _ _ _ h1.at h2.refer
mutual
theorem Fr.sound(hle:Φ.le Φ')(hrow:∀o m sz v,o+m*sz<=cs.length->RV Φ n β (.sref R [] o m sz) v->RV Φ' n β (.bor m ((cs.drop o).take (m*sz))) v):∀{x y:AV} {v:Value},Fr R cs x y->RV Φ n β x v->RV Φ' n β y v
 |_,_,_,.same x,h=>h.more hle (k9 _) λ_ _=>rfl
 |_,_,_,.unk x,_=>by simp[RV]
 |_,_,v,.row o m sz us h1 h2,h=>by subst h2;exact hrow o m sz v h1 h
 |_,_,_,.agg vs us hs,h=>by simp only[RV]at h ⊢;obtain⟨arr,h1,h2⟩:=h;exact⟨arr,h1,Frs.sound hle hrow hs h2⟩
 |_,_,_,.tup vs us hs,h=>by simp only[RV]at h ⊢;obtain⟨arr,h1,h2⟩:=h;exact⟨arr,h1,Frs.soundt hle hrow hs h2⟩
theorem Frs.sound(hle:Φ.le Φ')(hrow:∀o m sz v,o+m*sz<=cs.length->RV Φ n β (.sref R [] o m sz) v->RV Φ' n β (.bor m ((cs.drop o).take (m*sz))) v):∀{xs ys:List AV} {vs:List Value},Frs R cs xs ys->RVs Φ n β xs vs->RVs Φ' n β ys vs
 |_,_,_,.nil,h=>by simpa only[RVs]using h
 |_,_,_,.cons v u vs us h1 h2,h=>by simp only[RVs]at h ⊢;obtain⟨v',vs',e,o,g1,g2⟩:=h;exact⟨v',vs',e,o,Fr.sound hle hrow h1 g1,Frs.sound hle hrow h2 g2⟩
theorem Frs.soundt(hle:Φ.le Φ')(hrow:∀o m sz v,o+m*sz<=cs.length->RV Φ n β (.sref R [] o m sz) v->RV Φ' n β (.bor m ((cs.drop o).take (m*sz))) v):∀{xs ys:List AV} {vs:List Value},Frs R cs xs ys->RVt Φ n β xs vs->RVt Φ' n β ys vs
 |_,_,_,.nil,h=>by simpa only[RVt]using h
 |_,_,_,.cons v u vs us h1 h2,h=>by simp only[RVt]at h ⊢;obtain⟨v',vs',e,g1,g2⟩:=h;exact⟨v',vs',e,Fr.sound hle hrow h1 g1,Frs.soundt hle hrow h2 g2⟩
end
theorem HF.node(h:∀r t2,H2.get1 r=some t2->r≠R/\∃t,H.get1 r=some t/\t2.e=t.e/\Frs R cs t.cs t2.cs){r:Nat}:∀{π:List Nat} {t2:Root},H2.get r π=some t2->r≠R/\∃t,H.get r π=some t/\t2.e=t.e/\Frs R cs t.cs t2.cs
 |[],t2,hr=>h r t2 hr
 |i::π,t2,hr=>by
  simp only[Heap.get]at hr ⊢;split at hr
  · rename_i tp htp
    obtain⟨h1,t,h2,h3,h4⟩:=HF.node h htp;refine⟨h1,t2,?_,rfl,?_⟩;{rw[h2];rcases(h4.get i).node with e|e;{simp only[];rw[<-e];exact hr};{rw[e]at hr;cases hr}}
    · have same:∀l:List AV,Frs R cs l l:=λl=>by
       induction l with
       |nil=>exact .nil
       |cons x l ih=>exact .cons _ _ _ _ (.same x) ih
      exact same _
  {cases hr}
theorem Ent.freezeR{m:Nat}{xs xs2:List AV}{e:TypeId}(hR:H.get1 R=some ⟨e,cs⟩)(hno:noOwn cs=true)(hx:Frs R cs xs xs2)(hHr:∀r t2,H2.get1 r=some t2->r≠R/\∃t,H.get1 r=some t/\t2.e=t.e/\Frs R cs t.cs t2.cs):Ent m xs2 H2 n xs H n:=by
 intro Φ β vs w hm hK hh hv;have hR':H.get R []=some ⟨e,cs⟩:=hR;cases hex:(β R []).ex with
 |false=>have hcs:cs=[]:=(by rcases(hh.root R [] _ hR').2 with⟨_,h⟩|⟨h,_⟩;{exact h};{rw[hex]at h;cases h});have hrow:∀o m sz v,o+m*sz<=cs.length->RV Φ n β (.sref R [] o m sz) v->RV Φ n β (.bor m ((cs.drop o).take (m*sz))) v:=(by intro o k sz v _ h;simp only[RV]at h ⊢;obtain⟨_,s,cap,h1,h2,h3,h4⟩:=h;rcases h4 with⟨h5,h6,_⟩|⟨h5,_⟩;{exact⟨s,cap,[],h1,h2,h3,.inl rfl,by subst hcs;simp[RVs]⟩};{rw[hex]at h5;cases h5});refine⟨Φ,β,hm,λ_ _=>rfl,Fz.le_refl Φ,hK,?_,Frs.soundt (Fz.le_refl Φ) hrow hx hv⟩;refine⟨λr π t2 hr=>?_,λr π r' π' h1 h2=>?_⟩;{obtain⟨h1,t,h2,h3,h4⟩:=HF.node hHr hr;obtain⟨h5,h6⟩:=hh.root r π t h2;refine⟨h5,h6.imp (λ⟨a,b⟩=>⟨a,by have:=h4.length;rw[b]at this;exact m6.1 this⟩) λ⟨a,b,cur,c1,c2,c3,c4⟩=>⟨a,b,cur,by rw[h3];exact c1,c2,by rw[h4.length];exact c3,by rw[h4.length];exact Frs.sound (Fz.le_refl Φ) hrow h4.refer c4⟩⟩};{obtain⟨t,ht⟩:=y3.1 h1;obtain⟨t',ht'⟩:=y3.1 h2;obtain⟨_,u,hu,_⟩:=HF.node hHr ht;obtain⟨_,u',hu',_⟩:=HF.node hHr ht';exact hh.apart r π r' π' (by simp[hu]) (by simp[hu'])}
 |true=>
  obtain⟨g1,cur,g2,g3,g4,g5⟩:=hh.own hR' hex;rw[iF hno]at g5;let Φ':Fz:=λb=>if b=(β R []).b then some (true,.cells cur e (0,0))else Φ b
  have z1:Φ' (β R []).b=some (true,.cells cur e (0,0)):=(by simp[Φ']);have z2:∀b,b≠(β R []).b->Φ' b=Φ b:=λb h=>by simp[Φ',h]
  have hle:Φ.le Φ':=λb x h=>by rw[z2 b (λhb=>by rw[hb,g1]at h;cases h)];exact h
  have hK':Keep Φ' w:=λb x h=>by by_cases hb:b=(β R []).b;{subst hb;rw[z1]at h;cases h;exact g2};{rw[z2 b hb]at h;exact hK b x h}
  have hrow:∀o m sz v,o+m*sz<=cs.length->RV Φ n β (.sref R [] o m sz) v->RV Φ' n β (.bor m ((cs.drop o).take (m*sz))) v:=(by intro o k sz v hl h;simp only[RV]at h ⊢;obtain⟨_,s,cap,h1,h2,h3,h4⟩:=h;rcases h4 with⟨rfl,h6,_⟩|⟨_,rfl,_⟩;{exact⟨s,cap,[],h1,h2,h3,.inl rfl,by simp[RVs]⟩};{refine⟨_,cap,(((cur.toList.drop (β R []).st).take cs.length).drop o).take (k*sz),h1,h2,h3,.inr ⟨_,_,cur,e,(0,0),rfl,z1,λi hi=>?_⟩,((g5.drop o).take (k*sz)).more hle (k9 _) λ_ _=>rfl⟩;simp only[m7,p8,Array.length_toList]at hi;have e1:((((cur.toList.drop (β R []).st).take cs.length).drop o).take (k*sz)).getD i undef=cur[(β R []).st+o+i]'(by omega):=(by simp[x8,qQJ,t9,show i<k*sz by omega,show o+i<cs.length by omega,<-m4,show(β R []).st+o+i<cur.size by omega]);rw[e1];simp[show(β R []).st+o+i<cur.size by omega]});refine⟨Φ',β,hm,λ_ _=>rfl,hle,hK',?_,Frs.soundt hle hrow hx hv⟩;refine⟨λr π t2 hr=>?_,λr π r' π' h1 h2=>?_⟩;{obtain⟨h1,t,h2,h3,h4⟩:=HF.node hHr hr;obtain⟨h5,h6⟩:=hh.root r π t h2;refine⟨h5,h6.imp (λ⟨a,b⟩=>⟨a,by have:=h4.length;rw[b]at this;exact m6.1 this⟩) λ⟨a,b,cur',c1,c2,c3,c4⟩=>⟨a,?_,cur',by rw[h3];exact c1,c2,by rw[h4.length];exact c3,by rw[h4.length];exact Frs.sound hle hrow h4.refer c4⟩⟩;rw[z2 _ λhb=>h1 (hh.apart r π R [] (by simp[h2]) (by simp[hR']) a hex hb).1];exact b};{obtain⟨t,ht⟩:=y3.1 h1;obtain⟨t',ht'⟩:=y3.1 h2;obtain⟨_,u,hu,_⟩:=HF.node hHr ht;obtain⟨_,u',hu',_⟩:=HF.node hHr ht';exact hh.apart r π r' π' (by simp[hu]) (by simp[hu'])}
theorem Frs.refl:∀l:List AV,Frs R cs l l
 |[]=> .nil
 |x::l=> .cons _ _ _ _ (.same x) (Frs.refl l)
theorem Ent.cut{m:Nat}{xs:List AV}(hg:∀r t2,H2.get1 r=some t2->∃t k,H.get1 r=some t/\t2.e=t.e/\t2.cs=t.cs.take k):Ent m xs H2 n xs H n:=by
 have node:∀{r:Nat} {π:List Nat} {t2:Root},H2.get r π=some t2->∃t k,H.get r π=some t/\t2.e=t.e/\t2.cs=t.cs.take k:=by
  intro r π;induction π with
  |nil=>exact λh=>hg r _ h
  |cons i π ih=>intro t2 hr;simp only[Heap.get]at hr ⊢;split at hr;{rename_i tp htp;obtain⟨t,k,h2,h3,h4⟩:=ih htp;refine⟨t2,t2.cs.length,?_,rfl,by simp⟩;rw[h2];simp only[];rw[<-hr,h4];by_cases hi:i<k;{simp[x8,qQJ,hi]};{have:(t.cs.take k).getD i .unk= .unk:=(by simp[x8,qQJ,hi]);rw[h4,this]at hr;cases hr}};{cases hr}
 intro Φ β vs w hm hK hh hv;refine⟨Φ,β,hm,λ_ _=>rfl,Fz.le_refl Φ,hK,⟨λr π t2 hr=>?_,λr π r' π' h1 h2=>?_⟩,hv⟩;{obtain⟨t,k,h2,h3,h4⟩:=node hr;obtain⟨h5,h6⟩:=hh.root r π t h2;refine⟨h5,h6.imp (λ⟨a,b⟩=>⟨a,by rw[h4,b];simp⟩) λ⟨a,b,cur,c1,c2,c3,c4⟩=>⟨a,b,cur,by rw[h3];exact c1,c2,by rw[h4,m7];omega,?_⟩⟩;rw[h4,<-xC];have:=c4.take k;rw[List.take_take]at this;rw[m7,Nat.min_comm k];rwa[Nat.min_comm]at this};{obtain⟨t,ht⟩:=y3.1 h1;obtain⟨t',ht'⟩:=y3.1 h2;obtain⟨u,_,hu,_⟩:=node ht;obtain⟨u',_,hu',_⟩:=node ht';exact hh.apart r π r' π' (by simp[hu]) (by simp[hu'])}
end
section
variable {P : Program} {Q : Post} {env : List AV} {H H2 : Heap} {n m R : Nat} {cs : List AV} {c : LCode}
def FL(R:Nat)(cs:List AV)(env:List AV):List (Nat×AV)->Prop
 |[]=>True
 |(i,v)::l=>Fr R cs (env.getD i .unk) v/\FL R cs env l
theorem FL.mem:∀{l:List (Nat×AV)},FL R cs env l->∀{i v},(i,v)∈l->Fr R cs (env.getD i .unk) v
 |[],_,_,_,h=>by cases h
 |(j,u)::l,hl,i,v,h=>by rcases g8.1 h with e|h;{cases e;exact hl.1};{exact hl.2.mem h}
theorem Frs.of_get:∀{xs ys:List AV},ys.length=xs.length->(∀t,t<xs.length->Fr R cs (xs.getD t .unk) (ys.getD t .unk))->Frs R cs xs ys
 |[],ys,h,_=>by obtain rfl:ys=[]:=m6.1 (by simpa using h);exact .nil
 |x::xs,[],h,_=>by simp at h
 |x::xs,y::ys,h,k=> .cons _ _ _ _ (k 0 (by simp)) (Frs.of_get (by simpa using h) λt ht=>by simpa using k (t+1) (by simpa using ht))
def HC(H:Heap):Heap->Prop
 |[]=>True
 |(r,some t2)::H2=>(∃t k,H.get1 r=some t/\t2.e=t.e/\t2.cs=t.cs.take k)/\HC H H2
 |(_,none)::H2=>HC H H2
theorem HC.root:∀{H2:Heap},HC H H2->∀r t2,H2.get1 r=some t2->∃t k,H.get1 r=some t/\t2.e=t.e/\t2.cs=t.cs.take k
 |[],_,r,t2,h=>by simp[Heap.get1]at h
 |(k,some t)::H2,hs,r,t2,h=>by simp only[Heap.get1]at h;split at h;{rename_i e;subst e;cases h;exact hs.1};{exact HC.root hs.2 r t2 h}
 |(k,none)::H2,hs,r,t2,h=>by simp only[Heap.get1]at h;split at h;{cases h};{exact HC.root (show HC H H2 from hs) r t2 h}
theorem Aw.cut(h2:HC H H2)(h:Aw P m c Q env H2 n):Aw P m c Q env H n:=Aw.ent (Ent.cut h2.root) h
theorem bQn{T:Type}[Inhabited T]{c:T->List AV}{sz o k i:Nat}{xs ys:List T}(hc:∀x,(c x).length=sz)(ho:o=i*sz)(hi:i+k<=xs.length)(hy:ys=(xs.drop i).take k)(hk:k=ys.length):Fr R (fl c xs) (.sref R [] o k sz) (.bor ys.length (fl c ys)):=by rw[<-hk];refine .row o k sz _ (by rw[bE hc,ho,<-qZQ];exact qQZ sz hi) ?_;rw[ho,qI hc,oI hc,hy]
theorem cAx{T:Type}[Inhabited T]{c:T->List AV}{sz k:Nat}{xs:List T}(hc:∀x,(c x).length=sz)(hk:k=xs.length):Fr R (fl c xs) (.sref R [] 0 k sz) (.bor xs.length (fl c xs)):=bQn (i:=0) hc (by simp) (by omega) (by simp[hk]) hk
end
theorem Inl.ent{P:Program}{f:FuncId}{args args2:List AV}{H H2 H':Heap}{n n2 n':Nat}{r:AV}(he:Ent n args2 H2 n2 args H n)(h:Inl P f args2 H2 n2 r H' n'):Inl P f args H n r H' n':=by intro Φ w β vs hK hH hv;obtain⟨Φ2,β2,h1,h2,h3,h4,h5,h6⟩:=he Φ β vs w (k9 _) hK hH hv;exact(h Φ2 w β2 vs h4 h5 h6).mono λe w' ⟨v,Φ',β',g0,g1,g2,g3,g4,g5,g6,g7⟩=>⟨v,Φ',β',g0,qQQ h1 g1,λi hi=>(g2 i (o7 hi h1)).trans (h2 i hi),h3.trans g3,g4,g5,g6,g7⟩
theorem bVe {P:Program} {env:List AV} {H H2:Heap} {n n':Nat} {K:AV->Heap->Nat->Prop} {f:FuncId} {as:List Opd} {args args2 args':List AV} {r v:AV} {Hr:Heap} (hs:as.map (·.val env)=args) (he:Ent n args2 H2 n args H n) (hp:Fn P f args' r) (hc:Cloz [] args2 args') (h1:r.noRef=true)
 (hn:bM n r=(v,Hr,n')) (hk:Hld (K v (Hr++H2) n')):Hld (yop P env H n K (.call f as)):=by
 refine aDr (r:=v) (H':=Hr++H2) (n':=n') (hs▸Inl.ent he ?_) hk;have:=Inl.of_fn0 (H:=H2) (n:=n) hc hp h1;rw[hn]at this;exact this
end Go.Proofs.YtcgggihjcelmhaaGreat
namespace Go.Proofs.YtcgggihjcelmhaaGreat
open Bool renaming and_eq_true → x5, not_eq_true' → u0, or_eq_true → r9
open List renaming getD_eq_getElem?_getD → x6, getD → x8, replicate → j0, all_eq_true → w5, length_append → y5, length_cons → y7, getElem?_eq_getElem → y9, getElem?_append_right → d9, getElem?_append_left → e7, mem_range → f8, mem_cons → g8, length_replicate → l6, map_cons → m5, length_eq_zero_iff → m6, length_take → m7, cons_append → n7, getElem?_eq_some_iff → n9, take → o5, getElem?_set → o9, length_drop → p8, nil_append → r6, getD_cons_succ → r7, append_nil → r8, length_set → t7, getElem?_drop → t9, take_of_length_le → qQX, getElem?_take → qQJ, drop → qQK, getD_cons_zero → qQW, eq_nil_or_concat → qZV, concat_eq_append → qZY, ext_getElem? → qXW, contains_eq_mem → qJX
open Nat renaming le_refl → k9, lt_succ_self → y8, beq → f9, le_succ → l9, add_assoc → m4, zero_le → m9, lt_of_lt_of_le → o7, zero_add → p9, le_trans → qQQ, mul_le_mul_right → qQZ, ble_eq → qQV, add_mul → qZQ, ble → qZH, beq_eq → qJZ
open Option renaming some → w7, map_eq_some_iff → w9, isSome_iff_exists → y3
set_option linter.all false
open Go.ChangeShapes Go.WideShapes Go.ChangeAt Go.RowKit
mutual
def Dat.av:Dat->AV
 | .int n=> .int .i64 n
 | .u8 n=> .int .u8 n
 | .bool b=> .bool b
 | .sl _ n xs=> .bor n (avs xs)
def avs:List Dat->List AV
 |[]=>[]
 |d::ds=>d.av::avs ds
end
def FzW(W:World):Fz:=λb=>(W.heap[b]?).map λo=>(true,o)
theorem cEs{W:World}:Keep (FzW W) W:=λb x h=>by unfold FzW at h;obtain⟨o,ho,rfl⟩:=w9.1 h;exact ho
section
variable {W : World} {n : Nat} {β : Spots}
theorem cBi{s:Option Addr}{vs:List Value}(h:RowW W s vs):RowOf (FzW W) s vs:=by rcases h with h|⟨b,o,rfl,hlt,hc⟩;{exact .inl h};{by_cases hv:vs=[];{exact .inl hv};{have hl:0<vs.length:=(by cases vs<;>simp_all);have hb:W.heap[b]? =some W.heap[b]:=Array.getElem?_eq_getElem hlt;have h0:=hc 0 hl;(cases ho:W.heap[b]with|cells cs e fz=>refine .inr ⟨b,o,cs,e,fz,rfl,by simp[FzW,hlt,ho],λi hi=>?_⟩;have:=hc i hi;simp only[World.cell?,hb,ho]at this;simpa using this|_=>simp[World.cell?,hb,ho]at h0)}}
mutual
theorem Rep.rv:∀{d:Dat} {v:Value},Rep W d v->RV (FzW W) n β d.av v/\v.oneCell'=true
 | .int n,v,h=>by simp only[Rep]at h;obtain⟨rfl,h1,h2⟩:=h;exact⟨by simp only[Dat.av,RV,IntKind.min,IntKind.max,IntKind.signed,IntKind.bits];exact⟨trivial,by simpa using h1,by simp;omega⟩,rfl⟩
 | .u8 n,v,h=>by simp only[Rep]at h;obtain⟨rfl,h1,h2⟩:=h;exact⟨by simp only[Dat.av,RV,IntKind.min,IntKind.max,IntKind.signed,IntKind.bits];exact⟨trivial,by simpa using h1,by simp;omega⟩,rfl⟩
 | .bool b,v,h=>by simp only[Rep]at h;subst h;exact⟨by simp[Dat.av,RV],rfl⟩
 | .sl _ n xs,v,h=>by simp only[Rep]at h;obtain⟨s,cap,vs,rfl,h2,h3,h4,h5,h6⟩:=h;refine⟨?_,rfl⟩;simp only[Dat.av,RV];exact⟨s,cap,vs,rfl,h2,by unfold maxLen;omega,cBi h5,Reps.rv h6⟩
theorem Reps.rv:∀{ds:List Dat} {vs:List Value},Reps W ds vs->RVs (FzW W) n β (avs ds) vs
 |[],_,h=>by simp only[Reps]at h;subst h;simp[avs,RVs]
 |d::ds,_,h=>by simp only[Reps]at h;obtain⟨v,vs',rfl,h1,h2⟩:=h;simp only[avs,RVs];exact⟨v,vs',rfl,(Rep.rv h1).2,(Rep.rv h1).1,Reps.rv h2⟩
end
theorem aTd:∀{xs ys:List Dat},avs (xs++ys)=avs xs++avs ys
 |[],_=>rfl
 |_::xs,ys=>by simp[avs,aTd (xs:=xs)]
def InI(n:Int):Prop:=-9223372036854775808<=n/\n<=9223372036854775807
def okL{T:Type}(p:T->Prop)(xs:List T):Prop:=xs.length<=9223372036854775807/\∀x∈xs,p x
def InB(n:Int):Prop:=0<=n/\n<=255
def okB:Bool->Prop:=λ_=>True
mutual
def Dat.ok:Dat->Prop
 | .int n=>InI n
 | .u8 n=>InB n
 | .bool _=>True
 | .sl _ n xs=>n<=9223372036854775807/\oks xs
def oks:List Dat->Prop
 |[]=>True
 |d::ds=>d.ok/\oks ds
end
mutual
theorem Rep.ok:∀{d:Dat} {v:Value},Rep W d v->d.ok
 | .int n,v,h=>by simp only[Rep]at h;exact h.2
 | .u8 n,v,h=>by simp only[Rep]at h;exact h.2
 | .bool b,v,h=>trivial
 | .sl _ n xs,v,h=>by simp only[Rep]at h;obtain⟨s,cap,vs,rfl,h2,h3,h4,h5,h6⟩:=h;exact⟨qQQ h2 h3,Reps.ok h6⟩
theorem Reps.ok:∀{ds:List Dat} {vs:List Value},Reps W ds vs->oks ds
 |[],_,h=>trivial
 |d::ds,_,h=>by simp only[Reps]at h;obtain⟨v,vs',rfl,h1,h2⟩:=h;exact⟨Rep.ok h1,Reps.ok h2⟩
end
theorem aHo:∀{xs ys:List Dat},oks (xs++ys)->oks xs/\oks ys
 |[],_,h=>⟨trivial,h⟩
 |_::xs,ys,h=>⟨⟨h.1,(aHo h.2).1⟩,(aHo h.2).2⟩
theorem cFo{d:Dat}(h:Fit .u8 d)(ho:d.ok):∃n,d.av= .int .u8 n/\InB n:=by simp only[Fit]at h;obtain⟨n,rfl⟩:=h;exact⟨n,rfl,ho⟩
theorem bSu{T:Type}{c:T->List AV}{p:T->Prop}{sz:Nat}{es:List Sh}(hr:∀r,Fits es r->oks r->∃x,avs r=c x/\p x){d:Dat}(h:Fit (.sl sz es) d)(ho:d.ok):∃xs:List T,d.av= .bor xs.length (fl c xs)/\okL p xs:=by
 simp only[Fit]at h;obtain⟨rows,rfl,h⟩:=h
 have key:∀rows:List (List Dat),(∀r∈rows,Fits es r)->oks rows.flatten->∃xs:List T,xs.length=rows.length/\avs rows.flatten=fl c xs/\∀x∈xs,p x:=by
  intro rows;induction rows with
  |nil=>intro _ _;exact⟨[],rfl,rfl,by simp⟩
  |cons r rows ih=>intro h ho;simp only[List.flatten_cons]at ho;obtain⟨o1,o2⟩:=aHo ho;obtain⟨xs,h1,h2,h3⟩:=ih (λr' hr'=>h r' (by simp[hr'])) o2;obtain⟨x,hx,hp⟩:=hr r (h r (by simp)) o1;exact⟨x::xs,by simp[h1],by simp only[List.flatten_cons,aTd,hx,h2];rfl,by simpa using⟨hp,h3⟩⟩
 obtain⟨xs,h1,h2,h3⟩:=key rows h ho.2;exact⟨xs,by simp only[Dat.av,h2,h1],by have:=ho.1;rw[<-h1]at this;exact this,h3⟩
theorem cCp{ds:List Dat}(h:Fits [.u8] ds)(ho:oks ds):∃z,avs ds=eI .u8 z/\InB z:=by simp only[Fits]at h;obtain⟨d,ds',rfl,h1,rfl⟩:=h;obtain⟨z,hz,hi⟩:=cFo h1 ho.1;exact⟨z,by simp[avs,hz,eI],hi⟩
variable {H : Type} {enc : TypeId × Value → H} {P : Program} {spare : Nat → Bool} {held : Bool} {r : Reach} {b0 : Nat} {t : TypeId} {v : Value} {d : DataW H} {ps : List MemPlace}
theorem bQd{e:TypeId}{k:Nat}{s:Sh}(ht:P.underlying t=some (.slice e))(hs:yO P k t=some [s])(hval:Value.okWide P W r b0 t v)(hd:DataW.Trod enc P W 0 spare held t v d ps):
 ∃x,Fit s x/\x.ok/\RV (FzW W) n β x.av v:=by
 obtain⟨fuel,hf⟩:=hd;obtain⟨ds,h1,h2⟩:=aAh k fuel t _ hs _ _ hf;simp only[Fits]at h2;obtain⟨x,ds',rfl,h3,rfl⟩:=h2;simp only[Reps]at h1;obtain⟨u,us,e1,h4,rfl⟩:=h1;have hv:v.cells=#[v]:=(by simp only[Value.okWide,ht,Cell.okWide]at hval;cases v<;>simp_all [Cell.ok,Value.cells]);rw[hv]at e1;simp at e1;subst e1;exact⟨x,h3,h4.ok,(Rep.rv h4).1⟩
theorem bQo{f:FuncId}{xs:List AV}{args:Array Value}(hp:Fn P f xs (.bool true))(hc:aS xs=true)(hv:RVt (FzW W) 0 (λ_ _=>⟨false,0,0,0⟩) xs args.toList):
 Calls P f args W λe w'=>e= .returned (.bool true)/\Below W.heap.size W w':=by
 have hz:∀xs:List AV,aS xs=true->Cloz [] xs xs:=by
  intro xs;induction xs with
  |nil=>intro _;rfl
  |cons x xs ih=>intro h;simp only[aS,x5]at h;exact⟨x,xs,rfl,.clean x h.1,ih h.2⟩
 have:=hp.flat_call (H:=[]) rfl (hz xs hc) RH.empty cEs hv;simpa[AV.conc,Go.Proofs.YtcgggihjcelmhaaGreat.conc1]using this
end
end Go.Proofs.YtcgggihjcelmhaaGreat
namespace Go.Proofs.YtcgggihjcelmhaaGreat
open Bool renaming and_eq_true → x5, not_eq_true' → u0, or_eq_true → r9
open List renaming getD_eq_getElem?_getD → x6, getD → x8, replicate → j0, all_eq_true → w5, length_append → y5, length_cons → y7, getElem?_eq_getElem → y9, getElem?_append_right → d9, getElem?_append_left → e7, mem_range → f8, mem_cons → g8, length_replicate → l6, map_cons → m5, length_eq_zero_iff → m6, length_take → m7, cons_append → n7, getElem?_eq_some_iff → n9, take → o5, getElem?_set → o9, length_drop → p8, nil_append → r6, getD_cons_succ → r7, append_nil → r8, length_set → t7, getElem?_drop → t9, take_of_length_le → qQX, getElem?_take → qQJ, drop → qQK, getD_cons_zero → qQW, eq_nil_or_concat → qZV, concat_eq_append → qZY, ext_getElem? → qXW, contains_eq_mem → qJX
open Nat renaming le_refl → k9, lt_succ_self → y8, beq → f9, le_succ → l9, add_assoc → m4, zero_le → m9, lt_of_lt_of_le → o7, zero_add → p9, le_trans → qQQ, mul_le_mul_right → qQZ, ble_eq → qQV, add_mul → qZQ, ble → qZH, beq_eq → qJZ
open Option renaming some → w7, map_eq_some_iff → w9, isSome_iff_exists → y3
set_option linter.all false
section
variable {S R : Type}
theorem bAu {step:S->Option (LO S R)} (Inv:S->Prop) (μ:S->Nat) (g:S->Option (LO S R))
 (h:∀s,Inv s->(∃s',step s=some (.next s')/\Inv s'/\μ s'<μ s/\g s=g s')\/((∀s',step s≠some (.next s'))/\g s=step s)):∀s,Inv s->iter step s=g s:=by
 have key:∀k s,μ s<k->Inv s->iter step s=g s:=by
  intro k;induction k with
  |zero=>intro s hs;omega
  |succ k ih=>intro s hs hi;rw[cR];rcases h s hi with⟨s',h1,h2,h3,h4⟩|⟨h1,h2⟩;{rw[h1,h4];exact ih s' (by omega) h2};{rw[h2];(cases e:step s with|none=>rfl|some o=>(cases o with|next s'=>exact absurd e (h1 s')|brk s'=>rfl|ret r=>rfl))}
 exact λs hi=>key (μ s+1) s (y8 _) hi
theorem aGk{z:Int}(h0:-9223372036854775808<=z)(h1:z<=9223372036854775807):IntKind.i64.wrap z=z:=by rw[IntKind.wrap_i64];omega
theorem aD{z:Int}(h0:-9223372036854775808<=z)(h1:z<=9223372036854775807):w64 z=z:=aGk h0 h1
end
end Go.Proofs.YtcgggihjcelmhaaGreat
namespace Go.Proofs.YtcgggihjcelmhaaGreat
open Bool renaming and_eq_true → x5, not_eq_true' → u0, or_eq_true → r9
open List renaming getD_eq_getElem?_getD → x6, getD → x8, replicate → j0, all_eq_true → w5, length_append → y5, length_cons → y7, getElem?_eq_getElem → y9, getElem?_append_right → d9, getElem?_append_left → e7, mem_range → f8, mem_cons → g8, length_replicate → l6, map_cons → m5, length_eq_zero_iff → m6, length_take → m7, cons_append → n7, getElem?_eq_some_iff → n9, take → o5, getElem?_set → o9, length_drop → p8, nil_append → r6, getD_cons_succ → r7, append_nil → r8, length_set → t7, getElem?_drop → t9, take_of_length_le → qQX, getElem?_take → qQJ, drop → qQK, getD_cons_zero → qQW, eq_nil_or_concat → qZV, concat_eq_append → qZY, ext_getElem? → qXW, contains_eq_mem → qJX
open Nat renaming le_refl → k9, lt_succ_self → y8, beq → f9, le_succ → l9, add_assoc → m4, zero_le → m9, lt_of_lt_of_le → o7, zero_add → p9, le_trans → qQQ, mul_le_mul_right → qQZ, ble_eq → qQV, add_mul → qZQ, ble → qZH, beq_eq → qJZ
open Option renaming some → w7, map_eq_some_iff → w9, isSome_iff_exists → y3
set_option linter.all false
open Go.RowKit
section
variable {T : Type} [Inhabited T] {c : T → List AV} {sz : Nat} {xs : List T} {H H' : Heap} {r i off o sz' m' m2 : Nat} {π : List Nat} {e e' : TypeId} {cs' ds : List AV} {y : T}
theorem uL(hi:i<xs.length):(xs.set i y).getD i default=y:=by simp[x8,hi]
theorem aFm {x0:T} (hc:∀x,(c x).length=sz) (hg:H.get r π=some ⟨e,fl c xs⟩) (ho:o=i*sz+off) (hi:i<xs.length) (hf:off+1<=sz) (hx:xs.getD i default=x0)
 (hv:(c x0).getD off .unk= .own e' sz' m' cs'):H.get r (o::π)=some ⟨e',cs'⟩:=by
 subst hx;simp only[Heap.get,hg];rw[ho,vO hc hi hf,hv];rfl
theorem bPe {x0:T} {zs:List T} (hc:∀x,(c x).length=sz) (hg:H.get r π=some ⟨e,fl c xs⟩) (ho:o=i*sz+off) (hi:i<xs.length) (hf:off+1<=sz) (hx:xs.getD i default=x0)
 (hv:(c x0).getD off .unk= .own e' sz' m' cs') (hm:m'=m2) (hy:aT (c x0) off [.own e' sz' m2 ds]=c y) (hz:xs.set i y=zs) (hp:H.put r π (fl c zs)=H'):H.put r (o::π) ds=H':=by
 subst hx;subst hm;subst hz;simp only[Heap.put,hg];have h2:=aJy (xs:=xs) (vs:=[.own e' sz' m' ds]) hc hi hf hy;simp only[aT]at h2;rw[<-ho]at h2;rw[ho,vO hc hi hf,hv,<-ho];simp only[];rw[h2,hp]
end
section
variable {P : Program} {env : List AV} {H H' : Heap} {n n' : Nat} {K : AV → Heap → Nat → Prop} {T : Type} [Inhabited T] {c : T → List AV} {sz : Nat} {xs zs : List T}
end
section
variable {H : Heap}
theorem aHz:∀{as bs as' bs':List AV},Clos H as bs->Clos H as' bs'->Clos H (as++as') (bs++bs')
 |_,_,_,_,.nil,k=>k
 |_,_,_,_,.cons v u vs us h1 h2,k=> .cons v u _ _ h1 (aHz h2 k)
theorem aDu{r:Nat}{π:List Nat}:∀{as bs:List AV} {j:Nat},refer r π j (as++bs)=refer r π j as++refer r π (j+as.length) bs
 |[],bs,j=>by simp[refer]
 |a::as,bs,j=>by simp only[n7,refer,y7];rw[aDu,show j+1+as.length=j+(as.length+1) by omega]
theorem aVw{cs:List AV}{i:Nat}{t:Root}(h:(cs.getD i .unk).node=some t):i<cs.length:=by rcases Nat.lt_or_ge i cs.length with h1|h1;{exact h1};{simp[x8,Nat.not_lt.2 h1,AV.node]at h}
def oG{T:Type}(O B:T->List AV):Prop:=∀(x:T) (H:Heap) (r:Nat) (π:List Nat) (j:Nat),(∀k t,((O x).getD k .unk).node=some t->H.get r ((j+k)::π)=some t)->Clos H (refer r π j (O x)) (B x)
theorem aHb{T:Type}{O B:T->List AV}(oc:oG O B){r:Nat}{π:List Nat}:∀{xs:List T} {j:Nat},(∀k t,((fl O xs).getD k .unk).node=some t->H.get r ((j+k)::π)=some t)->Clos H (refer r π j (fl O xs)) (fl B xs)
 |[],_,_=> .nil
 |x::xs,j,h=>by have e1:fl O (x::xs)=O x++fl O xs:=(by simp[fl]);have e2:fl B (x::xs)=B x++fl B xs:=(by simp[fl]);rw[e1]at h ⊢;rw[e2,aDu];refine aHz (oc x H r π j λk t hk=>h k t ?_) (aHb oc λk t hk=>?_);{have:=aVw hk;simpa[x8,e7 this]using hk};{have:=h ((O x).length+k) t (by simpa[x8,d9]using hk);rwa[<-m4]at this}
theorem bYl{T:Type}[Inhabited T]{O B:T->List AV}{xs:List T}{sz r o k i:Nat}{π:List Nat}{e:TypeId}(oc:oG O B)(hc:∀x,(O x).length=sz)(hg:H.get r π=some ⟨e,fl O xs⟩)(ho:o=i*sz)(hi:i+k<=xs.length):
 Clo H (.sref r π o k sz) (.bor ((xs.drop i).take k).length (fl B ((xs.drop i).take k))):=by
 have hle:o+k*sz<=(fl O xs).length:=(by rw[bE hc,ho,<-qZQ];exact qQZ sz hi);refine .sref r π o _ _ sz _ _ hg hle (by simp;omega) ?_;rw[aBi,xC,p9];have e1:((fl O xs).drop o).take (k*sz)=fl O ((xs.drop i).take k):=(by rw[ho,qI hc,oI hc]);rw[e1];refine aHb oc λj t hj=>?_;rw[<-e1]at hj;have hj2:=aVw hj;simp only[m7,p8]at hj2;simp only[Heap.get,hg];rw[<-hj];simp[x8,qQJ,t9,show j<k*sz by omega]
theorem aXn{T:Type}[Inhabited T]{O B:T->List AV}{xs:List T}{sz r k:Nat}{π:List Nat}{e:TypeId}(oc:oG O B)(hc:∀x,(O x).length=sz)(hk:k=xs.length)(hg:H.get r π=some ⟨e,fl O xs⟩):
 Clo H (.sref r π 0 k sz) (.bor xs.length (fl B xs)):=by
 have:=bYl (o:=0) (i:=0) (k:=k) oc hc hg (by simp) (by omega);rw[List.drop_zero,qQX (by omega)]at this;exact this
end
section
variable {Φ : Fz} {n n2 : Nat} {β β1 : Spots} {H H2 : Heap} {w : World}
theorem RH.remap (h:RH Φ n β H w) (G:Nat->List Nat->Nat->List Nat->Prop)
 (hn:∀r π t2,H2.get r π=some t2->r<n2/\(((β1 r π).ex=false/\t2.cs=[])\/∃r0 π0 t0,G r π r0 π0/\H.get r0 π0=some t0/\t0.e=t2.e/\β1 r π=β r0 π0/\t2.cs.length=t0.cs.length/\∀vs,RVs Φ n β (refer r0 π0 0 t0.cs) vs->RVs Φ n2 β1 (refer r π 0 t2.cs) vs))
 (hi:∀r π r' π' q ω,(H2.get r π).isSome=true->(H2.get r' π').isSome=true->G r π q ω->G r' π' q ω->r=r'/\π=π'):RH Φ n2 β1 H2 w:=by
 refine⟨λr π t2 hr=>?_,λr π r' π' k1 k2 hx hx' he=>?_⟩;{obtain⟨h1,h2⟩:=hn r π t2 hr;refine⟨h1,?_⟩;rcases h2 with h2|⟨r0,π0,t0,_,g1,g2,g3,g4,g5⟩;{exact .inl h2};{unfold NodeIs;rw[g3];refine(h.root r0 π0 t0 g1).2.imp (λ⟨a,b⟩=>⟨a,m6.1 (by rw[g4,b];rfl)⟩) λ⟨a,b,cur,c1,c2,c3,c4⟩=>⟨a,b,cur,by rw[<-g2];exact c1,c2,by omega,?_⟩;rw[g4];exact g5 _ c4}};{obtain⟨t,ht⟩:=y3.1 k1;obtain⟨t',ht'⟩:=y3.1 k2;rcases(hn r π t ht).2 with⟨a,_⟩|⟨r0,π0,t0,g0,g1,g2,g3,g4,g5⟩;{rw[hx]at a;cases a};rcases(hn r' π' t' ht').2 with⟨a,_⟩|⟨r1,π1,t1,f0,f1,f2,f3,f4,f5⟩;{rw[hx']at a;cases a};rw[g3]at hx he;rw[f3]at hx' he;obtain⟨rfl,rfl⟩:=h.apart r0 π0 r1 π1 (by simp[g1]) (by simp[f1]) hx hx' he;exact hi r π r' π' r0 π0 k1 k2 g0 f0}
theorem RVs.move{r0 r:Nat}{π0 π:List Nat}(hm:∀x v,RV Φ n β x v->RV Φ n2 β1 x v)(hp:∀i,β1 r (i::π)=β r0 (i::π0))(hr:r<n2):∀{k:Nat} {cs:List AV} {vs:List Value},RVs Φ n β (refer r0 π0 k cs) vs->RVs Φ n2 β1 (refer r π k cs) vs
 |_,[],_,h=>by simpa only[refer,RVs]using h
 |k,x::cs,_,h=>by simp only[refer,RVs]at h ⊢;obtain⟨v,vs',rfl,o,h1,h2⟩:=h;refine⟨v,vs',rfl,o,?_,RVs.move hm hp hr h2⟩;(cases x with|own e sz m ds=>simp only[AV.at,RV]at h1 ⊢;rw[hp];exact⟨hr,h1.2⟩|_=>exact hm _ _ h1)
end
mutual
inductive Rd (R n : Nat) (S : List (Nat × Nat)) : AV → AV → Prop
 |same (x:AV):Rd R n S x x
 |unk (x:AV):Rd R n S x .unk
 |sref (o m m2 sz:Nat):m=m2->Rd R n S (.sref R [] o m sz) (.sref n [] o m2 sz)
 |ptr (o:Nat):Rd R n S (.ptr R [] o) (.ptr n [] o)
 |sub (r j o m m2 sz:Nat):(r,j)∈S->m=m2->Rd R n S (.sref r [] o m sz) (.sref n [j] o m2 sz)
 |subp (r j o:Nat):(r,j)∈S->Rd R n S (.ptr r [] o) (.ptr n [j] o)
 |agg (vs us:List AV):Rds R n S vs us->Rd R n S (.agg vs) (.agg us)
 |tup (vs us:List AV):Rds R n S vs us->Rd R n S (.tup vs) (.tup us)
inductive Rds (R n : Nat) (S : List (Nat × Nat)) : List AV → List AV → Prop
 |nil:Rds R n S [] []
 |cons (v u:AV) (vs us:List AV):Rd R n S v u->Rds R n S vs us->Rds R n S (v::vs) (u::us)
end
section
variable {R n : Nat} {S : List (Nat × Nat)} {Φ : Fz} {β β1 : Spots} {H H2 : Heap} {w : World}
theorem Rds.length:∀{xs ys:List AV},Rds R n S xs ys->ys.length=xs.length
 |_,_,.nil=>rfl
 |_,_,.cons _ _ _ _ _ h=>by simp[Rds.length h]
theorem Rds.get:∀{xs ys:List AV},Rds R n S xs ys->∀i,Rd R n S (xs.getD i .unk) (ys.getD i .unk)
 |_,_,.nil,i=>by simpa using Rd.same .unk
 |_,_,.cons v u vs us h1 h2,0=>by simpa using h1
 |_,_,.cons v u vs us h1 h2,i+1=>by simpa using h2.get i
theorem Rd.node{x y:AV}(h:Rd R n S x y):y.node=x.node\/y.node=none:=by
 cases h
 case same=>exact .inl rfl
 all_goals exact .inr rfl
theorem Rd.at{x y:AV}{r:Nat}{π:List Nat}{i:Nat}(h:Rd R n S x y):Rd R n S (x.at r π i) (y.at r π i):=by
 (cases h with|same=>exact .same _|unk=>exact .unk _|sref o m m2 sz he=>exact .sref o m m2 sz he|ptr o=>exact .ptr o|sub r j o m m2 sz h he=>exact .sub r j o m m2 sz h he|subp r j o h=>exact .subp r j o h|agg vs us h1=>exact .agg vs us h1|tup vs us h1=>exact .tup vs us h1)
theorem Rds.refer{r:Nat}{π:List Nat}:∀{i:Nat} {xs ys:List AV},Rds R n S xs ys->Rds R n S (refer r π i xs) (Go.Proofs.YtcgggihjcelmhaaGreat.refer r π i ys)
 |_,_,_,.nil=> .nil
 |i,_,_,.cons v u vs us h1 h2=>by simp only[Go.Proofs.YtcgggihjcelmhaaGreat.refer];exact .cons _ _ _ _ h1.at h2.refer
theorem Rds.refl:∀l:List AV,Rds R n S l l
 |[]=> .nil
 |x::l=> .cons _ _ _ _ (.same x) (Rds.refl l)
mutual
theorem Rd.sound(hb:∀i,i<n->β1 i=β i)(hR:β1 n []=β R [])(hS:∀r j,(r,j)∈S->β1 n [j]=β r []):∀{x y:AV} {v:Value},Rd R n S x y->RV Φ n β x v->RV Φ (n+1) β1 y v
 |_,_,_,.same x,h=>h.more (Fz.le_refl Φ) (l9 _) hb
 |_,_,_,.unk x,_=>by simp[RV]
 |_,_,_,.sref o m m2 sz he,h=>by subst he;simp only[RV]at h ⊢;rw[hR];exact⟨y8 _,h.2⟩
 |_,_,_,.ptr o,h=>by simp only[RV]at h ⊢;rw[hR];exact⟨y8 _,h.2⟩
 |_,_,_,.sub r j o m m2 sz hm he,h=>by subst he;simp only[RV]at h ⊢;rw[hS r j hm];exact⟨y8 _,h.2⟩
 |_,_,_,.subp r j o hm,h=>by simp only[RV]at h ⊢;rw[hS r j hm];exact⟨y8 _,h.2⟩
 |_,_,_,.agg vs us hs,h=>by simp only[RV]at h ⊢;obtain⟨arr,h1,h2⟩:=h;exact⟨arr,h1,Rds.sound hb hR hS hs h2⟩
 |_,_,_,.tup vs us hs,h=>by simp only[RV]at h ⊢;obtain⟨arr,h1,h2⟩:=h;exact⟨arr,h1,Rds.soundt hb hR hS hs h2⟩
theorem Rds.sound(hb:∀i,i<n->β1 i=β i)(hR:β1 n []=β R [])(hS:∀r j,(r,j)∈S->β1 n [j]=β r []):∀{xs ys:List AV} {vs:List Value},Rds R n S xs ys->RVs Φ n β xs vs->RVs Φ (n+1) β1 ys vs
 |_,_,_,.nil,h=>by simpa only[RVs]using h
 |_,_,_,.cons v u vs us h1 h2,h=>by simp only[RVs]at h ⊢;obtain⟨v',vs',e,o,g1,g2⟩:=h;exact⟨v',vs',e,o,Rd.sound hb hR hS h1 g1,Rds.sound hb hR hS h2 g2⟩
theorem Rds.soundt(hb:∀i,i<n->β1 i=β i)(hR:β1 n []=β R [])(hS:∀r j,(r,j)∈S->β1 n [j]=β r []):∀{xs ys:List AV} {vs:List Value},Rds R n S xs ys->RVt Φ n β xs vs->RVt Φ (n+1) β1 ys vs
 |_,_,_,.nil,h=>by simpa only[RVt]using h
 |_,_,_,.cons v u vs us h1 h2,h=>by simp only[RVt]at h ⊢;obtain⟨v',vs',e,g1,g2⟩:=h;exact⟨v',vs',e,Rd.sound hb hR hS h1 g1,Rds.soundt hb hR hS h2 g2⟩
end
inductive FCell (H : Heap) : Option (Option Nat) → AV → AV → Prop
 |same (x:AV):FCell H none x x
 |nil (e:TypeId) (sz:Nat):FCell H (some none) .nil (.own e sz 0 [])
 |emp (e:TypeId) (sz:Nat):FCell H (some none) .emp (.own e sz 0 [])
 |root (r:Nat) (e:TypeId) (sz m m2:Nat) (cs:List AV):H.get1 r=some ⟨e,cs⟩->m=m2->FCell H (some (some r)) (.sref r [] 0 m sz) (.own e sz m2 cs)
def qU(R n:Nat)(ρ:Nat->Option (Option Nat))(β:Spots):Spots:=λi=>if i=n then λπ=>match π.reverse with
 |[]=>β R []
 |j::σ=>match ρ j with
  |none=>β R π
  |some none=>⟨false,0,0,0⟩
  |some (some r)=>β r σ.reverse
 else β i
def HD(R n:Nat)(S:List (Nat×Nat))(bad:List Nat)(H:Heap):Heap->Prop
 |[]=>True
 |(r,some t2)::H2=>(r≠R/\r∉bad/\∃t,H.get1 r=some t/\t2.e=t.e/\Rds R n S t.cs t2.cs)/\HD R n S bad H H2
 |(_,none)::H2=>HD R n S bad H H2
theorem HD.root{bad:List Nat}:∀{H2:Heap},HD R n S bad H H2->∀r t2,H2.get1 r=some t2->r≠R/\r∉bad/\∃t,H.get1 r=some t/\t2.e=t.e/\Rds R n S t.cs t2.cs
 |[],_,r,t2,h=>by simp[Heap.get1]at h
 |(k,some t)::H2,hs,r,t2,h=>by simp only[Heap.get1]at h;split at h;{rename_i e;subst e;cases h;exact hs.1};{exact HD.root hs.2 r t2 h}
 |(k,none)::H2,hs,r,t2,h=>by simp only[Heap.get1]at h;split at h;{cases h};{exact HD.root (show HD R n S bad H H2 from hs) r t2 h}
theorem HD.node{bad:List Nat}(hH:HD R n S bad H H2){r:Nat}:∀{π:List Nat} {t2:Root},H2.get r π=some t2->r≠R/\r∉bad/\∃t,H.get r π=some t/\t2.e=t.e/\Rds R n S t.cs t2.cs
 |[],t2,hr=>hH.root r t2 hr
 |i::π,t2,hr=>by simp only[Heap.get]at hr ⊢;split at hr;{rename_i tp htp;obtain⟨h1,h0,t,h2,h3,h4⟩:=HD.node hH htp;refine⟨h1,h0,t2,?_,rfl,Rds.refl _⟩;rw[h2];rcases(h4.get i).node with e|e;{simp only[];rw[<-e];exact hr};{rw[e]at hr;cases hr}};{cases hr}
theorem Ent.fold {m:Nat} {e:TypeId} {cs cs2 xs xs2:List AV} {ρ:Nat->Option (Option Nat)} {bad:List Nat} (hR:H.get1 R=some ⟨e,cs⟩) (hl:cs2.length=cs.length) (hf:∀j,j<cs.length->FCell H (ρ j) (cs.getD j .unk) (cs2.getD j .unk))
 (hbad:∀j r,j<cs.length->ρ j=some (some r)->r∈bad) (hinj:∀j j' r,ρ j=some (some r)->ρ j'=some (some r)->j=j') (hRb:R∉bad) (hS:∀r j,(r,j)∈S->ρ j=some (some r)) (hx:Rds R n S xs xs2) (hH:HD R n S bad H H2):
 Ent m xs2 ((n,some ⟨e,cs2⟩)::H2) (n+1) xs H n:=by
 intro Φ β vs w hm hK hh hv;have hRn:R<n:=(hh.root R [] _ hR).1;have b1:∀i,i<n->qU R n ρ β i=β i:=λi hi=>by simp[qU,show i≠n by omega]
 have c0:qU R n ρ β n []=β R []:=(by simp[qU]);have c1:∀σ j,ρ j=none->qU R n ρ β n (σ++[j])=β R (σ++[j]):=λσ j h=>by simp[qU,h]
 have c2:∀σ j,ρ j=some none->qU R n ρ β n (σ++[j])=⟨false,0,0,0⟩:=λσ j h=>by simp[qU,h]
 have c3:∀σ j r,ρ j=some (some r)->qU R n ρ β n (σ++[j])=β r σ:=λσ j r h=>by simp[qU,h]
 have sb:∀r j,(r,j)∈S->qU R n ρ β n [j]=β r []:=λr j h=>by have:=c3 [] j r (hS r j h);simpa using this
 have mo:∀x v,RV Φ n β x v->RV Φ (n+1) (qU R n ρ β) x v:=λx v h=>h.more (Fz.le_refl Φ) (l9 _) b1;have hlt:∀{r π t2},H2.get r π=some t2->r<n:=λ{r π t2} h=>by obtain⟨_,_,t,h1,_⟩:=HD.node hH h;exact(hh.root r π t h1).1
 have gn:∀π,Heap.get ((n,some ⟨e,cs2⟩)::H2) n π=Heap.get [(n,some ⟨e,cs2⟩)] n π:=λπ=>lI (by simp[Heap.get1]) π;have cell:∀j,j<cs.length->∀v,RV Φ n β ((cs.getD j .unk).at R [] j) v->RV Φ (n+1) (qU R n ρ β) ((cs2.getD j .unk).at n [] j) v:=(by intro j hj v hv;have hc:=hf j hj;(cases hρ:ρ j with|none=>rw[hρ]at hc;generalize hA:cs.getD j .unk=A at hc hv;generalize hB:cs2.getD j .unk=B at hc;cases hc;(cases A with|own e' sz m ds=>simp only[AV.at,RV]at hv ⊢;have:=c1 [] j hρ;simp only[r6]at this;rw[this];exact⟨y8 _,hv.2⟩|_=>exact mo _ _ hv)|some q=>rw[hρ]at hc;generalize hA:cs.getD j .unk=A at hc hv;generalize hB:cs2.getD j .unk=B at hc;(cases hc with|nil e' sz=>have:=c2 [] j hρ;simp only[r6]at this;simp only[AV.at,RV]at hv ⊢;rw[this];exact⟨y8 _,none,0,hv,k9 _,m9 _,.inl ⟨trivial,rfl,.inr rfl⟩⟩|emp e' sz=>have:=c2 [] j hρ;simp only[r6]at this;simp only[AV.at,RV]at hv ⊢;rw[this];obtain⟨s,hv⟩:=hv;exact⟨y8 _,s,0,hv,k9 _,m9 _,.inl ⟨trivial,rfl,.inr rfl⟩⟩|root r e' sz m m2 ds h1 h2=>subst h2;have:=c3 [] j r hρ;simp only[r6]at this;simp only[AV.at,RV]at hv ⊢;rw[this];exact⟨y8 _,hv.2⟩)));have within:∀σ j t2,Heap.get [(n,some ⟨e,cs2⟩)] n (σ++[j])=some t2->j<cs.length/\((ρ j=none/\H.get R (σ++[j])=some t2)\/(ρ j=some none/\t2.cs=[])\/∃r,ρ j=some (some r)/\H.get r σ=some t2):=(by intro σ j t2 ht;have hj:j<cs.length:=(by rcases Nat.lt_or_ge j cs.length with h1|h1;{exact h1};{exfalso;have hd:Heap.get [(n,some ⟨e,cs2⟩)] n [j]=none:=(by have e1:cs2.getD j .unk= .unk:=(by simp[x8,hl,Nat.not_lt.2 h1]);simp only[Heap.get,Heap.get1,if_true];rw[e1];rfl);rw[eO hd σ]at ht;cases ht});refine⟨hj,?_⟩;have hc:=hf j hj;have e0:Heap.get [(n,some ⟨e,cs2⟩)] n []=some ⟨e,cs2⟩:=(by simp[Heap.get,Heap.get1]);(cases hρ:ρ j with|none=>left;rw[hρ]at hc;have en:(cs2.getD j .unk).node=(cs.getD j .unk).node:=(by generalize cs.getD j .unk=A at hc;generalize cs2.getD j .unk=B at hc;cases hc;rfl);exact⟨rfl,(aDp (i:=j) (i':=j) e0 (show H.get R []=some ⟨e,cs⟩from hR) en σ)▸ht⟩|some q=>right;rw[hρ]at hc;have hg1:Heap.get [(n,some ⟨e,cs2⟩)] n [j]=(cs2.getD j .unk).node:=(by simp[Heap.get,Heap.get1]);generalize cs.getD j .unk=A at hc;generalize hB:cs2.getD j .unk=B at hc hg1;have emp:∀e',Heap.get [(n,some ⟨e,cs2⟩)] n [j]=some ⟨e',[]⟩->t2.cs=[]:=(by intro e' h1;rcases qZV σ with rfl|⟨σ',k,rfl⟩;{simp only[r6]at ht;rw[h1]at ht;cases ht;rfl};{exfalso;simp only[qZY,List.append_assoc,List.singleton_append]at ht;have hd:Heap.get [(n,some ⟨e,cs2⟩)] n (k::[j])=none:=(by simp only[Heap.get]at h1 ⊢;rw[h1];simp[AV.node]);rw[eO hd σ']at ht;cases ht});(cases hc with|nil e' sz=>exact .inl ⟨rfl,emp e' hg1⟩|emp e' sz=>exact .inl ⟨rfl,emp e' hg1⟩|root r e' sz m m2 ds h1 h2=>refine .inr ⟨r,rfl,?_⟩;have hs:=aGq (H:=H) (H':=[(n,some ⟨e,cs2⟩)]) (r:=r) (r':=n) (ρ:=[]) (ρ':=[j]) (by rw[hg1];exact h1.symm) σ;rw[r8]at hs;rw[<-hs];exact ht)));refine⟨Φ,qU R n ρ β,by omega,λi hi=>b1 i (by omega),Fz.le_refl Φ,hK,?_,hx.soundt b1 c0 sb hv⟩;refine hh.remap (λr π r0 π0=>(r≠n/\r0=r/\π0=π)\/(r=n/\π=[]/\r0=R/\π0=[])\/(r=n/\∃σ j,π=σ++[j]/\ρ j=none/\r0=R/\π0=π)\/(r=n/\∃σ j q,π=σ++[j]/\j<cs.length/\ρ j=some (some q)/\r0=q/\π0=σ)) ?_ ?_;{intro r π t2 hr;by_cases hrn:r=n;{subst hrn;refine⟨y8 _,?_⟩;rw[gn]at hr;rcases qZV π with rfl|⟨σ,j,rfl⟩;{right;have:t2=⟨e,cs2⟩:=(by simpa[Heap.get,Heap.get1]using hr.symm);subst this;refine⟨R,[],⟨e,cs⟩,.inr (.inl ⟨rfl,rfl,rfl,rfl⟩),hR,rfl,c0,hl,λvs h=>?_⟩;have hlen:=h.length;rw[aY]at hlen;refine RVs.of_get (by rw[aY];show vs.length=cs2.length;rw[hl];exact hlen) λj hj=>?_;rw[aY]at hj;have hj':j<cs.length:=(by rw[<-hl];exact hj);obtain⟨g1,g2⟩:=h.get j (by rw[aY];exact hj');rw[eS,p9]at g1 ⊢;exact⟨cell j hj' _ g1,g2⟩};{rw[qZY]at hr ⊢;obtain⟨hj,h|⟨h1,h2⟩|⟨q,h1,h2⟩⟩:=within σ j t2 hr;{refine .inr ⟨R,σ++[j],t2,.inr (.inr (.inl ⟨rfl,σ,j,rfl,h.1,rfl,rfl⟩)),h.2,rfl,c1 σ j h.1,rfl,λvs hvs=>hvs.move mo (λi=>?_) (y8 _)⟩;exact c1 (i::σ) j h.1};{exact .inl ⟨by rw[c2 σ j h1],h2⟩};{refine .inr ⟨q,σ,t2,.inr (.inr (.inr ⟨rfl,σ,j,q,rfl,hj,h1,rfl,rfl⟩)),h2,rfl,c3 σ j q h1,rfl,λvs hvs=>hvs.move mo (λi=>?_) (y8 _)⟩;exact c3 (i::σ) j q h1}}};{rw[bH (λe=>hrn e.symm)]at hr;obtain⟨g1,g2,t,g3,g4,g5⟩:=HD.node hH hr;have hrl:=hlt hr;refine⟨by omega,.inr ⟨r,π,t,.inl ⟨hrn,rfl,rfl⟩,g3,g4.symm,by rw[b1 r hrl],g5.length,λvs h=>Rds.sound b1 c0 sb g5.refer h⟩⟩}};{intro r π r' π' q ω k1 k2 G1 G2;have no:∀r π,r≠n->(Heap.get ((n,some ⟨e,cs2⟩)::H2) r π).isSome=true->r≠R/\r∉bad:=(by intro r π hrn hs;obtain⟨t,ht⟩:=y3.1 hs;rw[bH (λe=>hrn e.symm)]at ht;obtain⟨g1,g2,_⟩:=HD.node hH ht;exact⟨g1,g2⟩);rcases G1 with⟨a1,a2,a3⟩|⟨a1,a2,a3,a4⟩|⟨a1,σ,j,a2,a3,a4,a5⟩|⟨a1,σ,j,p,a2,a0,a3,a4,a5⟩<;>rcases G2 with⟨d1,d2,d3⟩|⟨d1,d2,d3,d4⟩|⟨d1,σ',j',d2,d3,d4,d5⟩|⟨d1,σ',j',p',d2,d0,d3,d4,d5⟩;{exact⟨by rw[<-a2,<-d2],by rw[<-a3,<-d3]⟩};{exact absurd (a2.symm.trans d3) (no r π a1 k1).1};{exact absurd (a2.symm.trans d4) (no r π a1 k1).1};{exact absurd (by rw[<-a2,d4];exact hbad j' p' d0 d3) (no r π a1 k1).2};{exact absurd (d2.symm.trans a3) (no r' π' d1 k2).1};{exact⟨by rw[a1,d1],by rw[a2,d2]⟩};{exfalso;rw[a4,d2]at d5;simp at d5};{exfalso;exact hRb (by rw[<-a3,d4];exact hbad j' p' d0 d3)};{exact absurd (d2.symm.trans a4) (no r' π' d1 k2).1};{exfalso;rw[d4,a2]at a5;simp at a5};{exact⟨by rw[a1,d1],by rw[<-a5,<-d5]⟩};{exfalso;exact hRb (by rw[<-a4,d4];exact hbad j' p' d0 d3)};{exact absurd (by rw[<-d2,a4];exact hbad j p a0 a3) (no r' π' d1 k2).2};{exfalso;exact hRb (by rw[<-d3,a4];exact hbad j p a0 a3)};{exfalso;exact hRb (by rw[<-d4,a4];exact hbad j p a0 a3)};{have e1:p=p':=(by rw[<-a4,d4]);subst e1;have e2:=hinj j j' p a3 d3;subst e2;exact⟨by rw[a1,d1],by rw[a2,d2,<-a5,<-d5]⟩}}
end
section
variable {R n : Nat} {S : List (Nat × Nat)} {H H2 : Heap}
inductive FCs (H : Heap) : List (Option (Option Nat)) → List AV → List AV → Prop
 |nil:FCs H [] [] []
 |cons {q:Option (Option Nat)} {x y:AV} {L:List (Option (Option Nat))} {vs ws:List AV} (h:FCell H q x y) (t:FCs H L vs ws):FCs H (q::L) (x::vs) (y::ws)
theorem FCs.len{H:Heap}:∀{L:List (Option (Option Nat))} {vs ws:List AV},FCs H L vs ws->ws.length=vs.length/\L.length=vs.length
 |_,_,_,.nil=>⟨rfl,rfl⟩
 |_,_,_,.cons _ t=>by simp[t.len.1,t.len.2]
theorem FCs.get{H:Heap}:∀{L:List (Option (Option Nat))} {vs ws:List AV},FCs H L vs ws->∀j,FCell H (L.getD j none) (vs.getD j .unk) (ws.getD j .unk)
 |_,_,_,.nil,j=>by simpa using FCell.same .unk
 |_,_,_,.cons h _,0=>by simpa using h
 |_,_,_,.cons _ t,j+1=>by simpa using t.get j
def cD:List (Option (Option Nat))->List Nat
 |[]=>[]
 |some (some r)::L=>r::cD L
 |_::L=>cD L
theorem xE:∀{L:List (Option (Option Nat))} {j r:Nat},L.getD j none=some (some r)->r∈cD L
 |[],j,r,h=>by simp at h
 |q::L,0,r,h=>by simp only[qQW]at h;subst h;simp[cD]
 |q::L,j+1,r,h=>by
  simp only[r7]at h;have:=xE h
  match q with
  |none=>exact this
  |some none=>exact this
  |some (some p)=>exact List.mem_cons_of_mem _ this
def rM:List Nat->Bool
 |[]=>true
 |x::l=>!l.contains x&&rM l
theorem aUw:∀{L:List (Option (Option Nat))},rM (cD L)=true->∀{j j' r},L.getD j none=some (some r)->L.getD j' none=some (some r)->j=j'
 |[],_,j,j',r,h,_=>by simp at h
 |q::L,hn,j,j',r,h,h'=>by
  have hn2:rM (cD L)=true:=by
   match q,hn with
   |none,hn=>exact hn
   |some none,hn=>exact hn
   |some (some p),hn=>simp only[cD,rM,x5]at hn;exact hn.2
  have no:∀i,q=some (some r)->L.getD i none≠some (some r):=by
   rintro i rfl hi
   have:=xE hi;simp only[cD,rM,x5,u0,qJX,decide_eq_false_iff_not]at hn;exact hn.1 this
  cases j with
  |zero=>cases j' with
   |zero=>rfl
   |succ j'=>simp only[qQW,r7]at h h';exact absurd h' (no j' h)
  |succ j=>cases j' with
   |zero=>simp only[qQW,r7]at h h';exact absurd h (no j h')
   |succ j'=>simp only[r7]at h h';exact congrArg _ (aUw hn2 h h')
def jS(o:Nat):List (Option (Option Nat))->List (Nat×Nat)
 |[]=>[]
 |some (some r)::L=>(r,o)::jS (o+1) L
 |_::L=>jS (o+1) L
theorem aXq:∀{L:List (Option (Option Nat))} {o r j:Nat},(r,j)∈jS o L->o<=j/\L.getD (j-o) none=some (some r)
 |[],_,_,_,h=>by cases h
 |q::L,o,r,j,h=>by
  have rest:(r,j)∈jS (o+1) L->o<=j/\(q::L).getD (j-o) none=some (some r):=λh=>by obtain⟨h1,h2⟩:=aXq h;refine⟨by omega,?_⟩;rw[show j-o=(j-(o+1))+1 by omega,r7];exact h2
  match q,h with
  |none,h=>exact rest h
  |some none,h=>exact rest h
  |some (some p),h=>rcases g8.1 h with e|h;{cases e;exact⟨k9 _,by simp⟩};{exact rest h}
theorem Ent.foldX{m:Nat}{e:TypeId}{A vs ws B xs xs2:List AV}{L:List (Option (Option Nat))}(hR:H.get1 R=some ⟨e,A++(vs++B)⟩)(hF:FCs H L vs ws)(hnd:rM (cD L)=true)(hRb:(cD L).contains R=false)(hx:Rds R n (jS A.length L) xs xs2)(hH:HD R n (jS A.length L) (cD L) H H2):
 Ent m xs2 ((n,some ⟨e,A++(ws++B)⟩)::H2) (n+1) xs H n:=by
 obtain⟨l1,l2⟩:=hF.len;refine Ent.fold (ρ:=λj=>if A.length<=j then L.getD (j-A.length) none else none) (bad:=cD L) hR (by simp[l1]) (λj hj=>?_) (λj r _ h=>?_) (λj j' r h h'=>?_) (by simpa using hRb) (λr j h=>by obtain⟨h1,h2⟩:=aXq h;show(if A.length<=j then L.getD (j-A.length) none else none)=_;rw[if_pos h1,h2]) hx hH;{by_cases h:A.length<=j;{rw[if_pos h];by_cases h2:j-A.length<vs.length;{have:=hF.get (j-A.length);simpa[x8,d9 h,e7 h2,e7 (show j-A.length<ws.length by omega)]using this};{have e1:L.getD (j-A.length) none=none:=(by simp[x8,l2,h2]);rw[e1];have e2:(A++(ws++B)).getD j .unk=(A++(vs++B)).getD j .unk:=(by simp only[x8];rw[d9 h,d9 h,d9 (by omega),d9 (by omega),l1]);rw[e2];exact .same _}};{rw[if_neg h];have e2:(A++(ws++B)).getD j .unk=(A++(vs++B)).getD j .unk:=(by simp only[x8];rw[e7 (by omega),e7 (by omega)]);rw[e2];exact .same _}};{by_cases h1:A.length<=j;{rw[if_pos h1]at h;exact xE h};{rw[if_neg h1]at h;cases h}};{by_cases h1:A.length<=j;{by_cases h2:A.length<=j';{rw[if_pos h1]at h;rw[if_pos h2]at h';have:=aUw hnd h h';omega};{rw[if_neg h2]at h';cases h'}};{rw[if_neg h1]at h;cases h}}
section
variable {T : Type} [Inhabited T] {c : T → List AV} {sz : Nat} {xs ys : List T} {m : Nat} {e : TypeId} {vs ws us us2 : List AV} {L : List (Option (Option Nat))}
theorem Ent.foldP {i off o:Nat} {y:T} (hc:∀x,(c x).length=sz) (hR:H.get1 R=some ⟨e,aT (fl c xs) o vs⟩) (ho:o=i*sz+off) (hi:i<xs.length) (hf:off+vs.length<=sz) (hy:aT (c (xs.getD i default)) off ws=c y)
 (hF:FCs H L vs ws) (hnd:rM (cD L)=true) (hRb:(cD L).contains R=false) (hx:Rds R n (jS o L) us us2) (hH:HD R n (jS o L) (cD L) H H2):Ent m us2 ((n,some ⟨e,fl c (xs.set i y)⟩)::H2) (n+1) us H n:=by
 obtain⟨l1,_⟩:=hF.len;have hle:o+vs.length<=(fl c xs).length:=(by rw[bE hc,ho];exact oP rfl hi hf);rw[hC hle]at hR;have hA:((fl c xs).take o).length=o:=(by rw[m7];omega);have:=Ent.foldX (m:=m) hR hF hnd hRb (by rw[hA];exact hx) (by rw[hA];exact hH);rw[<-l1,<-hC (by omega),ho,aJy hc hi (by rw[l1];exact hf) hy]at this;exact this
theorem Ent.foldA (hR:H.get1 R=some ⟨e,fl c xs++vs⟩) (hy:ws=fl c ys)
 (hF:FCs H L vs ws) (hnd:rM (cD L)=true) (hRb:(cD L).contains R=false) (hx:Rds R n (jS (fl c xs).length L) us us2) (hH:HD R n (jS (fl c xs).length L) (cD L) H H2):Ent m us2 ((n,some ⟨e,fl c (xs++ys)⟩)::H2) (n+1) us H n:=by
 have:=Ent.foldX (m:=m) (B:=[]) (by rw[r8];exact hR) hF hnd hRb hx hH;rw[r8,hy,zK]at this;exact this
theorem Ent.foldL (hR:H.get1 R=some ⟨e,vs⟩) (hy:ws=fl c ys)
 (hF:FCs H L vs ws) (hnd:rM (cD L)=true) (hRb:(cD L).contains R=false) (hx:Rds R n (jS 0 L) us us2) (hH:HD R n (jS 0 L) (cD L) H H2):Ent m us2 ((n,some ⟨e,fl c ys⟩)::H2) (n+1) us H n:=by
 have:=Ent.foldA (xs:=([]:List T)) (m:=m) (c:=c) hR hy hF hnd hRb hx hH;simpa using this
theorem aFf{z:List AV}(hz:0<z.length):∀{k j:Nat},j<k*z.length->(aR z k).getD j .unk=z.getD (j%z.length) .unk
 |0,j,h=>by simp at h
 |k+1,j,h=>by rw[qZQ,Nat.one_mul]at h;rcases Nat.lt_or_ge j z.length with h1|h1;{rw[Nat.mod_eq_of_lt h1];simp[aR,x8,e7 h1]};{rw[Nat.mod_eq_sub_mod h1,<-aFf hz (k:=k) (j:=j-z.length) (by omega)];simp[aR,x8,d9 h1]}
theorem aBh{z:List AV}:∀{k:Nat},(aR z k).length=k*z.length
 |0=>by simp[aR]
 |k+1=>by simp[aR,aBh,qZQ,Nat.add_comm]
theorem Ent.foldM {k:Nat} {d:T} {z:List AV} (hz:(0<z.length)) (hR:H.get1 R=some ⟨e,aR z k⟩) (hd:ws=c d)
 (hF:FCs H L z ws) (hnd:cD L=[]) (hx:Rds R n [] us us2) (hH:HD R n [] [] H H2):Ent m us2 ((n,some ⟨e,fl c (j0 k d)⟩)::H2) (n+1) us H n:=by
 obtain⟨l1,l2⟩:=hF.len;have e0:fl c (j0 k d)=aR ws k:=(aCr hd).symm;rw[e0];refine Ent.fold (ρ:=λj=>L.getD (j%z.length) none) (bad:=[]) hR (by rw[aBh,aBh,l1]) (λj hj=>?_) (λj r _ h=>?_) (λj j' r h h'=>?_) (by simp) (λr j h=>by cases h) hx hH;{rw[aBh]at hj;rw[aFf hz hj,aFf (by omega) (by rw[l1];exact hj),l1];exact hF.get _};{have:=xE h;rw[hnd]at this;exact this};{have:=xE h;rw[hnd]at this;cases this}
end
end
section
variable {P : Program} {env : List AV} {H H' : Heap} {n n' : Nat} {K : AV → Heap → Nat → Prop} {T : Type} [Inhabited T] {c : T → List AV} {sz : Nat} {xs ys : List T}
theorem bOw {a x:Opd} {r o i off m:Nat} {e:TypeId} {vs:List AV} (hc:∀x,(c x).length=sz) (ha:a.val env= .ptr r [] o) (hx:(x.val env).cells=some vs) (hm:vs.length=m) (hg:H.get1 r=some ⟨e,fl c xs⟩) (ho:o=i*sz+off) (hi:i<xs.length) (hf:off+m<=sz)
 (hk:Hld (K .und ((r,some ⟨e,aT (fl c xs) o vs⟩)::H) n)):Hld (yop P env H n K (.store m a x)):=by
 constructor;have hk:=hk.un;simp only[yop,ha,hx,Heap.get,hg];refine aQm ?_ ?_;{simp only[x5,qQV,qJZ];exact⟨hm,by rw[bE hc,ho];exact oP rfl hi hf⟩};{simpa only[Heap.put,hg]using hk}
theorem bXd {e:TypeId} {bytes r k j:Nat} {vs:List AV} {z:List AV} {s x:Opd} (hl:k=xs.length) (hc:∀x,(c x).length=sz) (hx:cY H sz (x.val env)=some (j,vs)) (hs:s.val env= .sref r [] 0 k sz) (hg:H.get1 r=some ⟨e,fl c xs⟩)
 (hb:(xs.length+j)*bytes<=2^47/\xs.length+j<=2^47) (hk:Hld (K (.sref n [] 0 (xs.length+j) sz) ((n,some ⟨e,fl c xs++vs⟩)::(r,none)::H) (n+1))):Hld (yop P env H n K (.app e sz bytes z s x)):=by
 constructor;have hk:=hk.un;subst hl;have key:xop P env H n K (.app e sz bytes z s x):=(by simp only[xop,hx,hs,bOs (π:=[]) hc (show H.get r []=_ from hg)];exact⟨hb,hk⟩);exact key
theorem bRr {e:TypeId} {bytes j:Nat} {vs z:List AV} {s x:Opd} (hx:cY H sz (x.val env)=some (j,vs)) (hs:s.val env= .nil\/s.val env= .emp) (hb:j*bytes<=2^47/\j<=2^47)
 (hk:Hld (K (.sref n [] 0 j sz) ((n,some ⟨e,vs⟩)::H) (n+1))):Hld (yop P env H n K (.app e sz bytes z s x)):=by
 constructor;have hk:=hk.un;have key:xop P env H n K (.app e sz bytes z s x):=(by simp only[xop,hx];rcases hs with hs|hs<;>rw[hs]<;>exact⟨hb,hk⟩);exact key
theorem bEn{e:TypeId}{bytes:Nat}{z:List AV}{l:Opd}{k:Int}(hl:l.val env= .int .i64 k)(h0:0<=k/\k*bytes<=2^47/\k<=2^47)(hk:Hld (K (.sref n [] 0 k.toNat sz) ((n,some ⟨e,aR z k.toNat⟩)::H) (n+1))):
 Hld (yop P env H n K (.mk e sz bytes z l)):=by
 constructor;have hk:=hk.un;have key:xop P env H n K (.mk e sz bytes z l):=(by simp only[xop,hl];exact⟨h0,hk⟩);exact key
end
mutual
inductive Dt (R o n : Nat) : AV → AV → Prop
 |same (x:AV):Dt R o n x x
 |sref (a m sz:Nat):Dt R o n (.sref R [o] a m sz) (.sref n [] a m sz)
 |agg (vs us:List AV):Dts R o n vs us->Dt R o n (.agg vs) (.agg us)
inductive Dts (R o n : Nat) : List AV → List AV → Prop
 |nil:Dts R o n [] []
 |cons (v u:AV) (vs us:List AV):Dt R o n v u->Dts R o n vs us->Dts R o n (v::vs) (u::us)
end
def inS(R o n:Nat)(β:Spots):Spots:=λi=>if i=n then λσ=>β R (σ++[o])else β i
section
variable {R o n : Nat} {Φ : Fz} {β : Spots}
mutual
theorem Dt.sound:∀{x y:AV} {v:Value},Dt R o n x y->RV Φ n β x v->RV Φ (n+1) (inS R o n β) y v
 |_,_,_,.same x,h=>h.more (Fz.le_refl Φ) (l9 _) λi hi=>by simp[inS,show i≠n by omega]
 |_,_,_,.sref a m sz,h=>by simp only[RV,inS,if_true,r6]at h ⊢;exact⟨y8 _,h.2⟩
 |_,_,_,.agg vs us hs,h=>by simp only[RV]at h ⊢;obtain⟨arr,h1,h2⟩:=h;exact⟨arr,h1,Dts.sound hs h2⟩
theorem Dts.sound:∀{xs ys:List AV} {vs:List Value},Dts R o n xs ys->RVs Φ n β xs vs->RVs Φ (n+1) (inS R o n β) ys vs
 |_,_,_,.nil,h=>by simpa only[RVs]using h
 |_,_,_,.cons v u vs us h1 h2,h=>by simp only[RVs]at h ⊢;obtain⟨v',vs',e,o',g1,g2⟩:=h;exact⟨v',vs',e,o',Dt.sound h1 g1,Dts.sound h2 g2⟩
theorem Dts.soundt:∀{xs ys:List AV} {vs:List Value},Dts R o n xs ys->RVt Φ n β xs vs->RVt Φ (n+1) (inS R o n β) ys vs
 |_,_,_,.nil,h=>by simpa only[RVt]using h
 |_,_,_,.cons v u vs us h1 h2,h=>by simp only[RVt]at h ⊢;obtain⟨v',vs',e,g1,g2⟩:=h;exact⟨v',vs',e,Dt.sound h1 g1,Dts.soundt h2 g2⟩
end
end
theorem Inl.frameB {P:Program} {f:FuncId} {args args':List AV} {H H0 Hp Hp':Heap} {v v':AV} {m k n n':Nat} (pl:List Nat) (hc:Inl P f args H0 m v Hp k)
 (hm:pl.length=m) (hn:below pl n=true) (hnn:n'=n+(k-m)) (ha:Rens (λi=>pl[i]?) m args args') (hd0:dH ((fC H0).map (λi=>pl[i]?))=true) (h0:HS (λi=>pl[i]?) m H H0)
 (hv:Ren (eW pl m k n) n' v' v) (hd:dH ((fC Hp').map (eW pl m k n))=true) (hh:HS (eW pl m k n) n' Hp Hp') (hk:aFx pl n Hp'=true):Inl P f args' H n v' (Hp'++kO pl H) n':=
 Inl.frame pl hc hm (λr hr=>by simp only[below,w5]at hn;have:=hn r hr;simp only[Nat.blt,qQV]at this;omega) hnn ha (HSub.of hd0 h0) hv (HSub.of hd hh) (aPk hk)
mutual
inductive Zn (n : Nat) : AV → AV → Prop
 |same (x:AV):Zn n x x
 |nil (sz:Nat):Zn n .nil (.sref n [] 0 0 sz)
 |emp (sz:Nat):Zn n .emp (.sref n [] 0 0 sz)
 |agg (vs us:List AV):Zs n vs us->Zn n (.agg vs) (.agg us)
inductive Zs (n : Nat) : List AV → List AV → Prop
 |nil:Zs n [] []
 |cons (v u:AV) (vs us:List AV):Zn n v u->Zs n vs us->Zs n (v::vs) (u::us)
end
def aEx(n:Nat)(β:Spots):Spots:=λi=>if i=n then λ_=>⟨false,0,0,0⟩else β i
section
variable {n : Nat} {Φ : Fz} {β : Spots}
mutual
theorem Zn.sound:∀{x y:AV} {v:Value},Zn n x y->RV Φ n β x v->RV Φ (n+1) (aEx n β) y v
 |_,_,_,.same x,h=>h.more (Fz.le_refl Φ) (l9 _) λi hi=>by simp[aEx,show i≠n by omega]
 |_,_,_,.nil sz,h=>by simp only[RV,aEx,if_true]at h ⊢;exact⟨y8 _,none,0,h,k9 _,m9 _,.inl ⟨trivial,rfl,.inr trivial⟩⟩
 |_,_,_,.emp sz,h=>by simp only[RV,aEx,if_true]at h ⊢;obtain⟨s,h⟩:=h;exact⟨y8 _,s,0,h,k9 _,m9 _,.inl ⟨trivial,rfl,.inr trivial⟩⟩
 |_,_,_,.agg vs us hs,h=>by simp only[RV]at h ⊢;obtain⟨arr,h1,h2⟩:=h;exact⟨arr,h1,Zs.sound hs h2⟩
theorem Zs.sound:∀{xs ys:List AV} {vs:List Value},Zs n xs ys->RVs Φ n β xs vs->RVs Φ (n+1) (aEx n β) ys vs
 |_,_,_,.nil,h=>by simpa only[RVs]using h
 |_,_,_,.cons v u vs us h1 h2,h=>by simp only[RVs]at h ⊢;obtain⟨v',vs',e,o',g1,g2⟩:=h;exact⟨v',vs',e,o',Zn.sound h1 g1,Zs.sound h2 g2⟩
theorem Zs.soundt:∀{xs ys:List AV} {vs:List Value},Zs n xs ys->RVt Φ n β xs vs->RVt Φ (n+1) (aEx n β) ys vs
 |_,_,_,.nil,h=>by simpa only[RVt]using h
 |_,_,_,.cons v u vs us h1 h2,h=>by simp only[RVt]at h ⊢;obtain⟨v',vs',e,g1,g2⟩:=h;exact⟨v',vs',e,Zn.sound h1 g1,Zs.soundt h2 g2⟩
end
theorem Ent.nils{m:Nat}{e:TypeId}{xs xs2:List AV}{H:Heap}(hx:Zs n xs xs2):Ent m xs2 ((n,some ⟨e,[]⟩)::H) (n+1) xs H n:=by
 intro Φ β vs w hm hK hh hv;have b1:∀i,i<n->aEx n β i=β i:=λi hi=>by simp[aEx,show i≠n by omega]
 refine⟨Φ,aEx n β,by omega,λi hi=>b1 i (by omega),Fz.le_refl Φ,hK,?_,hx.soundt hv⟩;refine hh.remap (λr π r0 π0=>r0=r/\π0=π) ?_ ?_;{intro r π t2 hr;by_cases hrn:r=n;{subst hrn;refine⟨y8 _,.inl ⟨by simp[aEx],?_⟩⟩;rcases qZV π with rfl|⟨σ,j,rfl⟩;{simp only[Heap.get,Heap.get1,if_true,w7.injEq]at hr;rw[<-hr]};{exfalso;have hd:Heap.get ((r,some ⟨e,[]⟩)::H) r [j]=none:=(by simp[Heap.get,Heap.get1,AV.node]);rw[qZY,eO hd σ]at hr;cases hr}};{rw[bH (λe=>hrn e.symm)]at hr;have hrl:=(hh.root r π t2 hr).1;exact⟨by omega,.inr ⟨r,π,t2,⟨rfl,rfl⟩,hr,rfl,by rw[b1 r hrl],rfl,λvs h=>h.move (λx v h=>h.more (Fz.le_refl Φ) (l9 _) b1) (λi=>by rw[b1 r hrl]) (by omega)⟩⟩}}
 · rintro r π r' π' q ω _ _ ⟨a1,a2⟩ ⟨d1,d2⟩
   exact⟨by rw[<-a1,d1],by rw[<-a2,d2]⟩
end
theorem wR{n:Nat}:Zs n [] []:= .nil
theorem aH{n:Nat}{v u:AV}{vs us:List AV}(h:Zn n v u)(k:Zs n vs us):Zs n (v::vs) (u::us):= .cons _ _ _ _ h k
theorem bDo {P:Program} {env:List AV} {H H2 H':Heap} {n n2 n':Nat} {K:AV->Heap->Nat->Prop} {f:FuncId} {as:List Opd} {args args2:List AV} {r:AV} (hs:as.map (·.val env)=args) (he:Ent n args2 H2 n2 args H n) (hp:Inl P f args2 H2 n2 r H' n')
 (hk:Hld (K r H' n')):Hld (yop P env H n K (.call f as)):=aDr (hs▸Inl.ent he hp) hk
theorem bYu{M:List Nat}{n0:Nat}{A H H':Heap}(he:A++H=H')(h:((fC A).all λr=>M.contains r||qZH n0 r)=true):Agr M n0 H H':=by subst he;intro r hr hm;simp only[w5,r9,qQV]at h;have a:A.has r=false:=(by(cases e:A.has r with|false=>rfl|true=>rcases h r (rF e)with h|h;{rw[h]at hm;cases hm};{omega}));rw[iX,a];simp
section
variable {R n : Nat} {S : List (Nat × Nat)} {H H2 : Heap} {env : List AV}
theorem bLw:Rds R n S [] []:= .nil
theorem aNc{v u:AV}{vs us:List AV}(h:Rd R n S v u)(k:Rds R n S vs us):Rds R n S (v::vs) (u::us):= .cons _ _ _ _ h k
theorem xX{vs:List AV}:Rds R n S vs vs:=Rds.refl vs
theorem bWk{bad:List Nat}:HD R n S bad H []:=trivial
theorem aHa{bad:List Nat}{r:Nat}{t t2:Root}(hn:(r !=R&&!bad.contains r)=true)(ht:H.get1 r=some t)(he:t2.e=t.e)(h:Rds R n S t.cs t2.cs)(k:HD R n S bad H H2):HD R n S bad H ((r,some t2)::H2):=by simp only[x5,bne_iff_ne,u0,qJX,decide_eq_false_iff_not]at hn;exact⟨⟨hn.1,hn.2,t,ht,he,h⟩,k⟩
def RDL(R n:Nat)(S:List (Nat×Nat))(env:List AV):List (Nat×AV)->Prop
 |[]=>True
 |(i,v)::l=>Rd R n S (env.getD i .unk) v/\RDL R n S env l
theorem RDL.mem:∀{l:List (Nat×AV)},RDL R n S env l->∀{i v},(i,v)∈l->Rd R n S (env.getD i .unk) v
 |[],_,_,_,h=>by cases h
 |(j,u)::l,hl,i,v,h=>by rcases g8.1 h with e|h;{cases e;exact hl.1};{exact hl.2.mem h}
theorem Rds.of_get:∀{xs ys:List AV},ys.length=xs.length->(∀t,t<xs.length->Rd R n S (xs.getD t .unk) (ys.getD t .unk))->Rds R n S xs ys
 |[],ys,h,_=>by obtain rfl:ys=[]:=m6.1 (by simpa using h);exact .nil
 |x::xs,[],h,_=>by simp at h
 |x::xs,y::ys,h,k=> .cons _ _ _ _ (k 0 (by simp)) (Rds.of_get (by simpa using h) λt ht=>by simpa using k (t+1) (by simpa using ht))
theorem bDh{k:Nat}{l:List (Nat×AV)}(hl:env.length=k)(h:RDL R n S env l):Rds R n S env (sp k l):=by refine Rds.of_get (by rw[hl];exact spGo_length) λt _=>?_;rcases zL (k:=k) (i:=0) (t:=t) (l:=l)with e|e;{show Rd R n S _ ((uW 0 k l).getD t .unk);rw[e];exact .unk _};{rw[p9]at e;exact h.mem e}
theorem bKo:RDL R n S env []:=trivial
theorem aEq{i:Nat}{u v:AV}{l:List (Nat×AV)}(he:env.getD i .unk=u)(h:Rd R n S u v)(k:RDL R n S env l):RDL R n S env ((i,v)::l):=⟨by rw[he];exact h,k⟩
theorem bLl:FCs H [] [] []:= .nil
theorem fF{x:AV}{L:List (Option (Option Nat))}{vs ws:List AV}(t:FCs H L vs ws):FCs H (none::L) (x::vs) (x::ws):= .cons (.same x) t
theorem aEp{e:TypeId}{sz:Nat}{L:List (Option (Option Nat))}{vs ws:List AV}(t:FCs H L vs ws):FCs H (some none::L) (.nil::vs) (.own e sz 0 []::ws):= .cons (.nil e sz) t
theorem cFk{r:Nat}{e:TypeId}{sz m m2:Nat}{cs:List AV}{L:List (Option (Option Nat))}{vs ws:List AV}(h:H.get1 r=some ⟨e,cs⟩)(hm:m=m2)(t:FCs H L vs ws):FCs H (some (some r)::L) (.sref r [] 0 m sz::vs) (.own e sz m2 cs::ws):= .cons (.root r e sz m m2 cs h hm) t
end
set_option maxHeartbeats 0
section
variable {P : Program} {env : List AV} {H : Heap} {n : Nat}
theorem bVy{op:BinOp}{k:IntKind}{a b:Int}{x:AV}{K:AV->Prop}(h1:uX op k a b (λv=>x=v))(h2:uX op k a b K):K x:=by cases op<;>simp only[uX]at h1 h2<;>simp_all
theorem bYw{K:AV->Heap->Nat->Prop}{op:LOp}{x:AV}{H':Heap}{n':Nat}(hc:op.isCall=false)(h1:xop P env H n (λv a b=>x=v/\H'=a/\n'=b) op)(h2:xop P env H n K op):K x H' n':=by
 cases op<;>simp only[xop]at h1 h2
 case call=>simp[LOp.isCall]at hc
 case bin op a b=>split at h1;{rename_i k a' k' b' e1 e2;simp only[e1,e2]at h2;have h3:H'=H/\n'=n:=(by obtain⟨y,_,h⟩:=bBd h1.2;exact⟨h.2.1,h.2.2⟩);obtain⟨rfl,rfl⟩:=h3;exact bVy (aKr (λv h=>h.1) h1.2) h2.2};{exact h1.elim}
 case un op a=>simp only[xun]at h1 h2;split at h1;{rename_i e1;simp only[e1]at h2;obtain⟨rfl,rfl,rfl⟩:=h1;exact h2};{rename_i e1;simp only[e1]at h2;obtain⟨rfl,rfl,rfl⟩:=h1;exact h2};{exact h1.elim}
 all_goals
  repeat' (split at h1)
  all_goals simp_all
end
section
variable {P : Program} {ops : List Oper} {los : List LOper} {w0 : World} {Φ0 : Fz} {n0 : Nat} {β0 : Spots} {Q : Exit → Act → World → Prop} {K : List AV → Heap → Nat → Prop}
theorem bIx{ops:Array Oper}:∀{f:Nat} {listed:Array Bool},∃is,is∈tW ops f listed
 |0,_=>⟨[],by simp[tW]⟩
 |f+1,listed=>by(cases e:Region.ready .any ops listed with|nil=>exact⟨[],by unfold tW;rw[e];simp⟩|cons i rs=>obtain⟨is,h⟩:=bIx (ops:=ops) (f:=f) (listed:=listed.setIfInBounds i true);exact⟨i::is,by unfold tW;rw[e];simp only[List.mem_flatMap,List.mem_map];exact⟨i,by simp,is,h,rfl⟩⟩)
theorem bPj{ops:Array Oper}{f:Nat}{listed:Array Bool}{i:Nat}{is:List Nat}(hi:i∈Region.ready .any ops listed)(h:is∈tW ops f (listed.setIfInBounds i true)):i::is∈tW ops (f+1) listed:=by unfold tW;split;{rename_i hnil;rw[hnil]at hi;cases hi};{simp only[List.mem_flatMap,List.mem_map];exact⟨i,hi,is,h,rfl⟩}
theorem bXx (hlow:bX P ops ops=some los) (hcall:∀lo∈los,lo.op.isCall=false) (hedge:∀j o,ops[j]? =some o->∀e∈o.after,Region.binds .any e=true->e.on<j)
 (hend:∀env H n Φ β a w,n0<=n->(∀i,i<n0->β i=β0 i)->Φ0.le Φ->Rel w0 Φ n β env H a w->K env H n->Q .normal a w):
 ∀(fuel:Nat) (listed:Array Bool) (a:Act) (w:World),listed.size=ops.length->(bB listed ops.length).length<=fuel->
  (∃Φ β env H n,n0<=n/\(∀i,i<n0->β i=β0 i)/\Φ0.le Φ/\Rel w0 Φ n β env H a w/\∀is∈tW ops.toArray fuel listed,eX P K (is.map (aMa los)) env H n)->
  wpAny P .any ops.toArray Q fuel listed a w:=by
 have hll:=aGp hlow;intro fuel;induction fuel with
 |zero=>intro listed a w hsz hf ⟨Φ,β,env,H,n,k1,k2,k3,k4,k5⟩;have hnil:bB listed ops.length=[]:=m6.1 (by omega);refine⟨?_,hend env H n Φ β a w k1 k2 k3 k4 (by simpa[eX]using k5 [] (by simp[tW]))⟩;rw[List.eq_nil_iff_forall_not_mem];intro j hj;obtain⟨h1,o,h2,_⟩:=mem_ready.1 hj;have hjl:j<ops.length:=(by simpa using(Array.getElem?_eq_some_iff.1 h2).1);have:j∈bB listed ops.length:=(by simp only[bB,List.mem_filter,f8,hjl,h1];exact⟨trivial,rfl⟩);rw[hnil]at this;cases this
 |succ fuel ih=>
  intro listed a w hsz hf ⟨Φ,β,env,H,n,k1,k2,k3,k4,k5⟩;refine⟨λhnone=>?_,λj hj=>?_⟩;{refine hend env H n Φ β a w k1 k2 k3 k4 ?_;have:=k5 [] (by unfold tW;rw[hnone];simp);simpa[eX]using this}
  · obtain⟨hjun,o,ho,hr⟩:=mem_ready.1 hj
    have ho':ops[j]? =some o:=(by simpa using ho);have hjl:j<ops.length:=(n9.1 ho').1;obtain⟨lo,hlo,hlow1⟩:=aMt hlow j o ho';obtain⟨g1,g2,g3,g4⟩:=jE hlow1;have hgj:aMa los j=lo:=(by simp[aMa,x8,hlo]);have hset:(listed.setIfInBounds j true).size=ops.length:=(by simp[hsz]);obtain⟨apre,apost,as1,as2,as3⟩:=oE hjl hjun (by omega);have hfuel:(bB (listed.setIfInBounds j true) ops.length).length<=fuel:=(by rw[as3];rw[as1]at hf;simp only[y5,y7]at hf ⊢;omega);have k6:∀is∈tW ops.toArray fuel (listed.setIfInBounds j true),eX P K (lo::is.map (aMa los)) env H n:=λis his=>by have:=k5 (j::is) (bPj hj his);simpa[hgj]using this
    obtain⟨is0,his0⟩:=bIx (ops:=ops.toArray) (f:=fuel) (listed:=listed.setIfInBounds j true);have nc:=hcall lo (List.mem_of_getElem? hlo);have more:∀x v Φ' H' n' β' w',(∀is∈tW ops.toArray fuel (listed.setIfInBounds j true),eX P K (is.map (aMa los)) (Go.Proofs.YtcgggihjcelmhaaGreat.put env lo.dst x) H' n')->n<=n'->(∀i,i<n->β' i=β i)->Φ.le Φ'->Rel w0 Φ' n' β' (Go.Proofs.YtcgggihjcelmhaaGreat.put env o.dst x) H' (a.put o.dst v) w'->wpAny P .any ops.toArray Q fuel (listed.setIfInBounds j true) (a.put o.dst v) w':=λx v Φ' H' n' β' w' hK hn hb hF hR=>ih (listed.setIfInBounds j true) _ w' hset hfuel ⟨Φ',β',_,H',n',qQQ k1 hn,λi hi=>(hb i (o7 hi k1)).trans (k2 i hi),k3.trans hF,hR,by rw[g3]at hK;exact hK⟩;have run:(∀is∈tW ops.toArray fuel (listed.setIfInBounds j true),xop P env H n (λv H' n'=>eX P K (is.map (aMa los)) (Go.Proofs.YtcgggihjcelmhaaGreat.put env lo.dst v) H' n') lo.op)->o.wp P a w (wpAny P .any ops.toArray Q fuel (listed.setIfInBounds j true)) Q:=λhx=>by obtain⟨x,H',n',e1,_⟩:=aMj (hx is0 his0);refine aHk g1 g4 k4 e1 λx2 v Φ' H2 n2 β' w' ⟨q1,q2,q3⟩ h1 h2 h3 hR=>?_;subst q1;subst q2;subst q3;exact more x v Φ' H' n' β' w' (λis his=>bYw nc e1 (hx is his)) h1 h2 h3 hR
    have skip:(∀is∈tW ops.toArray fuel (listed.setIfInBounds j true),eX P K (is.map (aMa los)) (Go.Proofs.YtcgggihjcelmhaaGreat.put env lo.dst .und) H n)->wpAny P .any ops.toArray Q fuel (listed.setIfInBounds j true) (a.put o.dst undef) w:=λhx=>
     more .und undef Φ H n β w hx (k9 _) (λ_ _=>rfl) (Fz.le_refl Φ) (k4.put o.dst (Fz.le_refl Φ) (k9 _) (λ_ _=>rfl) (by simp[RV]) k4.heap k4.keep (Below.refl _ _))
    unfold wpOp;simp only[ho];(cases hg:o.guard with|none=>rw[hg]at g2;simp only[gJ,w7.injEq]at g2;simp only[eX,<-g2]at k6;simp only[Region.wanted,hg,if_true];exact .inl (run k6)|some p=>obtain⟨i,want⟩:=p;rw[hg]at g2;simp only[gJ]at g2;split at g2;{rename_i oj hoj;split at g2;{rename_i d hd;simp only[w7.injEq]at g2;simp only[eX,<-g2]at k6;have hx0:=k6 is0 his0;split at hx0;{rename_i b hb;have hy:=wY hoj hd k4.env hb;simp only[Region.wanted,hg,hy];simp only[hb]at k6;by_cases hbw:b=want;{subst hbw;rw[if_pos (by simp)];simp only[if_true]at k6;exact .inl (run k6)};{rw[if_neg (by simp[hbw])];simp only[if_neg hbw]at k6;exact skip k6}};{rename_i hb;have hy:=zI hoj hd k4.env hb;simp only[Region.wanted,hg,hy];rw[if_neg (by simp)];simp only[hb]at k6;exact skip k6};{exact hx0.elim}};{cases g2}};{cases g2})
end
section
variable {P : Program} {Q Q' : Post} {env : List AV} {H : Heap} {n m : Nat} {b : LCode}
theorem Aw.rega{Ls:List (List LOper)}(h:∀L∈Ls,eX P (Q .normal) L env H n):Aw P m (.rega Ls) Q env H n:=by
 intro cc hcc w0 Φ β a w hm hR;cases cc<;>simp only[eN,w7.injEq,reduceCtorEq]at hcc
 case region id os draw=>
  obtain⟨ops,rfl⟩:∃l:List Oper,os=l.toArray:=⟨os.toList,by simp⟩;unfold oZ at hcc;split at hcc
  · rename_i los g1
    split at hcc;{cases hcc}
    · rename_i hd
      obtain rfl:draw=true:=(by cases draw<;>simp_all);split at hcc;{cases hcc}
      · rename_i hmo
        split at hcc;{cases hcc}
        · split at hcc
          {cases hcc}
          · split at hcc
            {cases hcc}
            · split at hcc
              · rename_i hB
                cases hcc;simp only[x5,w5]at hB;obtain⟨⟨⟨⟨_,b2⟩,_⟩,b4⟩,_⟩:=hB;have hR':Rel w0 Φ n β env H a {w with drawn:=w.drawn+1}:=hR.later (Below.drew (Below.refl _ _));refine wp_region_any (by simpa using hmo) ?_;refine bXx (P:=P) (w0:=w0) (Φ0:=Φ) (n0:=m) (β0:=β) (K:=Q .normal) (by simpa using g1) (λlo hlo=>by simpa using b2 lo hlo) (λj o hj e he hbd=>?_) ?_ _ _ a _ (by simp) ?_ ⟨Φ,β,env,H,n,hm,λ_ _=>rfl,Fz.le_refl Φ,hR',λis his=>h _ (List.mem_map_of_mem his)⟩
                · have:=b4 (o,j) (by
                   have hjl:=(n9.1 hj).1;rw[List.mem_iff_getElem?];exact⟨j,by simp[hj]⟩)
                  simp only[Array.all_eq_true_iff_forall_mem]at this;have h2:=this e he;simpa[hbd]using h2
                {intro env2 H2 n2 Φ2 β2 a2 w2 c1 c2 c3 c4 c5;exact⟨.normal,env2,H2,n2,Φ2,β2,rfl,c5,c1,c2,c3,c4⟩};{simp only[List.size_toArray];unfold bB;exact qQQ (List.length_filter_le _ _) (by simp)}
              · repeat' (split at hcc)
                all_goals cases hcc
  {cases hcc}
 case seq=>split at hcc<;>simp at hcc
 case cond=>split at hcc<;>simp at hcc
 all_goals simp at hcc
def HAll(p:List LOper->Prop):List (List LOper)->Prop
 |[]=>True
 |L::Ls=>p L/\HAll p Ls
theorem HAll.mem{p:List LOper->Prop}:∀{Ls:List (List LOper)},HAll p Ls->∀L∈Ls,p L
 |[],_,L,h=>by cases h
 |_::_,h,L,hl=>by rcases g8.1 hl with rfl|hl;{exact h.1};{exact h.2.mem L hl}
theorem Aw.srega{Ls:List (List LOper)}(ls rs:List Nat)(h:HAll (λL=>Hld (bW P (TK ls rs (Aw P m b Q)) L env H n)) Ls):Aw P m (.seq (.rega Ls) b) Q env H n:=Aw.seq (Aw.rega λL hL=>nB (aUi ls rs) (lJ (h.mem L hL).un))
theorem cCu{p:List LOper->Prop}:HAll p []:=trivial
theorem bRa{p:List LOper->Prop}{L:List LOper}{Ls:List (List LOper)}(h:p L)(k:HAll p Ls):HAll p (L::Ls):=⟨h,k⟩
end
end Go.Proofs.YtcgggihjcelmhaaGreat
namespace Go.Proofs.YtcgggihjcelmhaaGreat
open Bool renaming and_eq_true → x5, not_eq_true' → u0, or_eq_true → r9
open List renaming getD_eq_getElem?_getD → x6, getD → x8, replicate → j0, all_eq_true → w5, length_append → y5, length_cons → y7, getElem?_eq_getElem → y9, getElem?_append_right → d9, getElem?_append_left → e7, mem_range → f8, mem_cons → g8, length_replicate → l6, map_cons → m5, length_eq_zero_iff → m6, length_take → m7, cons_append → n7, getElem?_eq_some_iff → n9, take → o5, getElem?_set → o9, length_drop → p8, nil_append → r6, getD_cons_succ → r7, append_nil → r8, length_set → t7, getElem?_drop → t9, take_of_length_le → qQX, getElem?_take → qQJ, drop → qQK, getD_cons_zero → qQW, eq_nil_or_concat → qZV, concat_eq_append → qZY, ext_getElem? → qXW, contains_eq_mem → qJX
open Nat renaming le_refl → k9, lt_succ_self → y8, beq → f9, le_succ → l9, add_assoc → m4, zero_le → m9, lt_of_lt_of_le → o7, zero_add → p9, le_trans → qQQ, mul_le_mul_right → qQZ, ble_eq → qQV, add_mul → qZQ, ble → qZH, beq_eq → qJZ
open Option renaming some → w7, map_eq_some_iff → w9, isSome_iff_exists → y3
set_option linter.all false
section
variable {P : Program} {H H' : Heap} {n n' : Nat} {K0 : List AV → Heap → Nat → Prop} {E E' : List AV} {L : List LOper} {ls rs : List Nat}
theorem yj(j:Nat)(E':List AV)(H':Heap)(n':Nat)(hk:Hld (bW P K0 (qQK j L) E' H' n'))(h:∀K:List AV->Heap->Nat->Prop,bW P K (List.take j L) E H n=K E' H' n':=by intro K;kernel_rfl):Hld (bW P K0 L E H n):=yc (List.take_append_drop j L).symm (cs:=[]) h .nil hk
theorem yjc(j:Nat)(cs:List Prop)(E':List AV)(H':Heap)(n':Nat)(hc:Conds cs)(hk:Hld (bW P K0 (qQK j L) E' H' n'))(h:∀K:List AV->Heap->Nat->Prop,bW P K (List.take j L) E H n=aFd cs (K E' H' n'):=by intro K;kernel_rfl):Hld (bW P K0 L E H n):=yc (List.take_append_drop j L).symm h hc hk
theorem yt(E':List AV)(H':Heap)(n':Nat)(hk:K0 E' H' n')(h:∀K:List AV->Heap->Nat->Prop,bW P (TK ls rs K) L E H n=K E' H' n':=by intro K;kernel_rfl):Hld (bW P (TK ls rs K0) L E H n):=yct (cs:=[]) h .nil hk
theorem ye(E':List AV)(H':Heap)(n':Nat)(hk:K0 E' H' n')(h:∀K:List AV->Heap->Nat->Prop,bW P K L E H n=K E' H' n':=by intro K;kernel_rfl):Hld (bW P K0 L E H n):=yce (cs:=[]) h .nil hk
theorem ys(op:LOp)(d:Option Nat)(hk:Hld (yop P E H n (λv H' n'=>bW P K0 (List.tail L) (put E d v) H' n') op))(hL:L=⟨d,op,none⟩::List.tail L:=by kernel_rfl):Hld (bW P K0 L E H n):=yso hL hk
theorem hq{ρ:Nat->Option Nat}{n2 r j:Nat}{H2:Heap}{t2:Root}(t:Root)(hr:Rens ρ n2 t2.cs t.cs)(h:HS ρ n2 H H2)(hn:r<n2:=by decide)(hj:ρ r=some j:=by rfl)(ht:H.get1 j=some t:=by kernel_rfl)(he:t.e=t2.e:=by rfl):HS ρ n2 H ((r,some t2)::H2):=bWm hn hj ht he hr h
end
section
variable {ρ : Nat → Option Nat} {n : Nat}
theorem cBr{k:IntKind}{z:Int}{vs us:List AV}(h:Rens ρ n vs us):Rens ρ n (.int k z::vs) (.int k z::us):=aW aGy h
theorem cDn{b:Bool}{vs us:List AV}(h:Rens ρ n vs us):Rens ρ n (.bool b::vs) (.bool b::us):=aW aIc h
end
def oo(d:Nat)(x:LOp):LOper:=⟨some d,x,none⟩
abbrev pp(r:Nat):AV:= .ptr r [] 0
def ol(d x:Nat):LOper:=oo d (.load false 1 (.t x))
def og(d:Nat)(x:LOp)(t:Nat)(b:Bool):LOper:=⟨some d,x,some (t,b)⟩
def oi(d sz x i:Nat):LOper:=oo d (.iadr sz (.t x) (.t i))
def ob(d:Nat)(op:BinOp)(x:Nat)(z:Int):LOper:=oo d (.bin op (.t x) (.c (.int .i64 z)))
section
variable {P : Program} {H H' : Heap} {n n' k : Nat} {K0 : List AV → Heap → Nat → Prop} {E E' env : List AV} {L : List LOper} {Kq : List AV → Prop} {M : List Nat} {n0 : Nat} {fs : Fresh} {Kd : DK} {K : AV → Heap → Nat → Prop}
theorem bCu:∀{vs:List AV},aS vs=true->Cloz H vs vs
 |[],_=>hO
 |x::vs,h=>by simp only[aS,x5]at h;exact fE (aE h.1) (bCu h.2)
theorem oc{f:FuncId}{as:List Opd}{args':List AV}{r:AV}(hp:Fn P f args' r)(hk:Hld (K r H n))(hv:as.map (·.val env)=args':=by kernel_rfl)(hc:aS args'=true:=by first|rfl|simp only[aS,AV.clean,Bool.and_self,bL dB])(h1:r.noRef=true:=by rfl)(h2:r.noBor=true:=by rfl)(hn:bM n r=(r,[],n):=by kernel_rfl):Hld (yop P env H n K (.call f as)):=gZ hp (mJ hv (bCu hc)) h1 h2 hn hk
theorem yg(op:LOp)(d:Option Nat)(t:Nat)(want:Bool)(hk:Hld (yop P E H n (λv H' n'=>bW P K0 (List.tail L) (put E d v) H' n') op))(hL:L=⟨d,op,some (t,want)⟩::List.tail L:=by kernel_rfl)(ht:E.getD t .unk= .bool want:=by kernel_rfl):Hld (bW P K0 L E H n):=ysg hL ht hk
theorem ds(op:LOp)(d:Option Nat)(hk:Hld (ydo P M n E H n (λv H' n'=>yds P M n0 Kd (List.tail L) (put E d v) H' n' fs) op))(hL:L=⟨d,op,none⟩::List.tail L:=by kernel_rfl)(hf:bDf op=false:=by rfl):Hld (yds P M n0 Kd L E H n fs):=dso hL hf hk
theorem qs(op:LOp)(d:Option Nat)(hk:Hld (yq P E H n (λv=>yqs P H n Kq (List.tail L) (put E d v)) op))(hL:L=⟨d,op,none⟩::List.tail L:=by kernel_rfl):Hld (yqs P H n Kq L E):=qso hL hk
theorem cz1{x:AV}{as bs:List AV}(k:Cloz H as bs)(h:x.clean=true:=by rfl):Cloz H (x::as) (x::bs):=fE (aE h) k
end
abbrev ii(z:Int):AV:= .int .i64 z
abbrev bb(b:Bool):AV:= .bool b
abbrev sw{T:Type}(r:Nat)(xs:List T):AV:= .sref r [] 0 (List.length xs) 1
def aZr(E:List AV):List (Nat×AV)->List AV
 |[]=>E
 |(k,v)::l=>aZr (E.set k v) l
section
variable {P : Program} {H H' : Heap} {n n' m : Nat} {K0 : List AV → Heap → Nat → Prop} {E E' env : List AV} {L ops : List LOper} {b x y : LCode} {Q : Post}
theorem yu(j:Nat)(l:List (Nat×AV))(H':Heap)(n':Nat)(hk:Hld (bW P K0 (qQK j L) (aZr E l) H' n'))(h:∀K:List AV->Heap->Nat->Prop,bW P K (List.take j L) E H n=K (aZr E l) H' n':=by intro K;kernel_rfl):Hld (bW P K0 L E H n):=yj j (aZr E l) H' n' hk h
theorem sy(ls rs:List Nat)(E':List AV)(H':Heap)(n':Nat)(hk:Aw P m b Q E' H' n')(h:∀K:List AV->Heap->Nat->Prop,bW P (TK ls rs K) ops E H n=K E' H' n':=by intro K;kernel_rfl):Aw P m (.seq (.reg false ops) b) Q E H n:=Aw.sreg ls rs (yt E' H' n' hk h)
theorem cT{c:Opd}{t:Bool}(ht:t=true)(h:Aw P m x Q env H n)(hc:c.val env= .bool t:=by kernel_rfl):Aw P m (.cond c x y) Q env H n:=Aw.condT hc ht h
theorem cF{c:Opd}{t:Bool}(ht:t=false)(h:Aw P m y Q env H n)(hc:c.val env= .bool t:=by kernel_rfl):Aw P m (.cond c x y) Q env H n:=Aw.condF hc ht h
theorem yb(t:Nat){bo v:Bool}(h:bo=v)(hk:Hld (bW P K0 L (E.set t (.bool v)) H n))(he:E.getD t .unk= .bool bo:=by kernel_rfl):Hld (bW P K0 L E H n):=ybs h he hk
end
theorem kr{α:Sort _}{a b:α}(h:a=b:=by kernel_rfl):a=b:=h
theorem dd{p:Prop}(h:p:=by decide):p:=h
theorem eqn{a b:Nat}(h:a=b:=by first|rfl|omega|(simp+zetaDelta only[List.length_set,aHu,List.length_replicate,List.length_append,List.length_cons,List.length_nil,List.length_take,List.length_drop]<;>omega)):a=b:=h
theorem ltn{p:Prop}(h:p:=by first|omega|(simp+zetaDelta only[List.length_set,List.length_append,List.length_replicate,List.length_cons,List.length_nil,List.length_take,List.length_drop,aHu]at*;omega)):p:=h
theorem aWq{α:Type}{b:Bool}{x y:Option α}{r:α}(h:cond b x y=some r):(b=false/\y=some r)\/(b=true/\x=some r):=(oW h).symm
abbrev EV:=Nat×AV
abbrev EH:=Nat×Option Root
section
variable {ρ : Nat → Option Nat} {n i : Nat} {env : List AV} {l : List (Nat × AV)}
theorem ri{k:IntKind}{z:Int}(K:RL ρ n env l)(he:env.getD i .unk= .int k z:=by kernel_rfl):RL ρ n env ((i,.int k z)::l):=bJw he aGy K
theorem rb{b:Bool}(K:RL ρ n env l)(he:env.getD i .unk= .bool b:=by kernel_rfl):RL ρ n env ((i,.bool b)::l):=bJw he aIc K
theorem ro{T:Type}{c:T->List AV}{xs:List T}(hc:∀x,aG (c x)=true)(K:RL ρ n env l)(he:env.getD i .unk=bo c xs:=by kernel_rfl):RL ρ n env ((i,bo c xs)::l):=bJw he (bS (aL (aC hc))) K
theorem wH{r j o k k2 sz:Nat}{π:List Nat}(h:r<n:=by decide)(hj:ρ r=some j:=by rfl)(hk:k2=k:=by exact eqn):Ren ρ n (.sref r π o k sz) (.sref j π o k2 sz):=bCp h hj hk
theorem rs{v:AV}(u:AV)(K:RL ρ n env l)(he:env.getD i .unk=u:=by kernel_rfl)(h:Ren ρ n v u:=by exact wH):RL ρ n env ((i,v)::l):=bJw he h K
theorem hn{T:Type}{c:T->List AV}{xs:List T}{e r j:Nat}{H H2:Heap}(hc:∀x,aG (c x)=true)(h:HS ρ n H H2)(hr:r<n:=by decide)(hj:ρ r=some j:=by rfl)(ht:H.get1 j=some ⟨e,fl c xs⟩:=by kernel_rfl):HS ρ n H ((r,some ⟨e,fl c xs⟩)::H2):=bWm hr hj ht rfl (aL (aC hc)) h
theorem el{m n n2:Nat}{xs2 xs:List AV}{H2 H:Heap}(L:List (Option Nat))(h3:Rens (rho L) n2 xs2 xs)(h4:HS (rho L) n2 H H2)(hd:dH ((fC H2).map (rho L))=true:=by rfl)(hp:aUb m L=true:=by rfl)(h2:m<=n2:=by decide):Ent m xs2 H2 n2 xs H n:=Ent.list2 L hd hp h2 h3 h4
end
def rgs:LCode->List (List LOper)
 | .reg _ l=>[l]| .regt a b=>[a,b]| .regd a b=>[a,b]| .rega Ls=>Ls| .seq a b=>rgs a++rgs b| .cond _ a b=>rgs a++rgs b| .block _ c=>rgs c| .loop c=>rgs c++[[]]|_=>[]
noncomputable def cGa (P:Program)(f k:Nat):List LOper:=match kP P f with|some L=>(rgs L.body).getD k []|none=>[]
section
variable {P : Program} {H H' : Heap} {n n' : Nat} {E E' env : List AV} {L : List LOper} {M : List Nat} {n0 : Nat} {fs : Fresh} {Kd : DK} {K : AV → Heap → Nat → Prop}
theorem cf {f:FuncId} {as:List Opd} {args:List AV} {H0 Hp:Heap} {v:AV} {m k:Nat} (v':AV) (Hp':Heap) (n':Nat) (pl:List Nat) (hc:Inl P f args H0 m v Hp k) (args':List AV)
 (ha:Rens (λi=>pl[i]?) m args args') (h0:HS (λi=>pl[i]?) m H H0) (hv:Ren (eW pl m k n) n' v' v) (hh:HS (eW pl m k n) n' Hp Hp') (hK:Hld (K v' (Hp'++kO pl H) n'))
 (hs:as.map (·.val env)=args':=by kernel_rfl) (hm:pl.length=m:=by rfl) (hn:below pl n=true:=by rfl) (hnn:n'=n+(k-m):=by rfl) (hd0:dH ((fC H0).map (λi=>pl[i]?))=true:=by rfl) (hd:dH ((fC Hp').map (eW pl m k n))=true:=by rfl) (hk:aFx pl n Hp'=true:=by rfl):Hld (yop P env H n K (.call f as)):=
 bVt pl hc hs hm hn hnn ha hd0 h0 hv hd hh hk hK
theorem dj(j:Nat)(E':List AV)(H':Heap)(n':Nat)(hk:Hld (yds P M n0 Kd (qQK j L) E' H' n' fs))(h:∀K:DK,yds P M n0 K (List.take j L) E H n fs=K E' H' n' fs:=by intro K;kernel_rfl):Hld (yds P M n0 Kd L E H n fs):=dc (cs:=[]) (List.take_append_drop j L).symm h .nil hk
theorem dt{P:Program}{tail:List LOper}{K0:List AV->Heap->Nat->Prop}(E':List AV)(H':Heap)(n':Nat)(hk:Hld (bW P K0 tail E' H' n'))(h:∀K,yds P M n0 (TD P tail K) L E H n fs=bW P K tail E' H' n':=by intro K;kernel_rfl):Hld (yds P M n0 (TD P tail K0) L E H n fs):=dct (cs:=[]) h .nil hk
end
end Go.Proofs.YtcgggihjcelmhaaGreat
namespace Go.Proofs.YtcgggihjcelmhaaGreat
open Bool renaming and_eq_true → x5, not_eq_true' → u0, or_eq_true → r9
open List renaming getD_eq_getElem?_getD → x6, getD → x8, replicate → j0, all_eq_true → w5, length_append → y5, length_cons → y7, getElem?_eq_getElem → y9, getElem?_append_right → d9, getElem?_append_left → e7, mem_range → f8, mem_cons → g8, length_replicate → l6, map_cons → m5, length_eq_zero_iff → m6, length_take → m7, cons_append → n7, getElem?_eq_some_iff → n9, take → o5, getElem?_set → o9, length_drop → p8, nil_append → r6, getD_cons_succ → r7, append_nil → r8, length_set → t7, getElem?_drop → t9, take_of_length_le → qQX, getElem?_take → qQJ, drop → qQK, getD_cons_zero → qQW, eq_nil_or_concat → qZV, concat_eq_append → qZY, ext_getElem? → qXW, contains_eq_mem → qJX
open Nat renaming le_refl → k9, lt_succ_self → y8, beq → f9, le_succ → l9, add_assoc → m4, zero_le → m9, lt_of_lt_of_le → o7, zero_add → p9, le_trans → qQQ, mul_le_mul_right → qQZ, ble_eq → qQV, add_mul → qZQ, ble → qZH, beq_eq → qJZ
open Option renaming some → w7, map_eq_some_iff → w9, isSome_iff_exists → y3
set_option linter.all false
open Go.RowKit
mutual
inductive Uf (R j n : Nat) : AV → AV → Prop
 |same (x:AV):Uf R j n x x
 |unk (x:AV):Uf R j n x .unk
 |sref (o m m2 sz:Nat):m=m2->Uf R j n (.sref R [j] o m sz) (.sref n [] o m2 sz)
 |ptr (o:Nat):Uf R j n (.ptr R [j] o) (.ptr n [] o)
 |agg (vs us:List AV):Ufs R j n vs us->Uf R j n (.agg vs) (.agg us)
 |tup (vs us:List AV):Ufs R j n vs us->Uf R j n (.tup vs) (.tup us)
inductive Ufs (R j n : Nat) : List AV → List AV → Prop
 |nil:Ufs R j n [] []
 |cons (v u:AV) (vs us:List AV):Uf R j n v u->Ufs R j n vs us->Ufs R j n (v::vs) (u::us)
end
section
variable {R j n : Nat} {Φ : Fz} {β β1 : Spots} {H H2 : Heap} {w : World}
theorem Ufs.length:∀{xs ys:List AV},Ufs R j n xs ys->ys.length=xs.length
 |_,_,.nil=>rfl
 |_,_,.cons _ _ _ _ _ h=>by simp[Ufs.length h]
theorem Ufs.get:∀{xs ys:List AV},Ufs R j n xs ys->∀i,Uf R j n (xs.getD i .unk) (ys.getD i .unk)
 |_,_,.nil,i=>by simpa using Uf.same .unk
 |_,_,.cons v u vs us h1 h2,0=>by simpa using h1
 |_,_,.cons v u vs us h1 h2,i+1=>by simpa using h2.get i
theorem Uf.node{x y:AV}(h:Uf R j n x y):y.node=x.node\/y.node=none:=by
 cases h
 case same=>exact .inl rfl
 all_goals exact .inr rfl
theorem Uf.at{x y:AV}{r:Nat}{π:List Nat}{i:Nat}(h:Uf R j n x y):Uf R j n (x.at r π i) (y.at r π i):=by
 (cases h with|same=>exact .same _|unk=>exact .unk _|sref o m m2 sz he=>exact .sref o m m2 sz he|ptr o=>exact .ptr o|agg vs us h1=>exact .agg vs us h1|tup vs us h1=>exact .tup vs us h1)
theorem Ufs.refer{r:Nat}{π:List Nat}:∀{i:Nat} {xs ys:List AV},Ufs R j n xs ys->Ufs R j n (refer r π i xs) (Go.Proofs.YtcgggihjcelmhaaGreat.refer r π i ys)
 |_,_,_,.nil=> .nil
 |i,_,_,.cons v u vs us h1 h2=>by simp only[Go.Proofs.YtcgggihjcelmhaaGreat.refer];exact .cons _ _ _ _ h1.at h2.refer
theorem Ufs.refl:∀l:List AV,Ufs R j n l l
 |[]=> .nil
 |x::l=> .cons _ _ _ _ (.same x) (Ufs.refl l)
mutual
theorem Uf.sound(hb:∀i,i<n->β1 i=β i)(hR:β1 n []=β R [j]):∀{x y:AV} {v:Value},Uf R j n x y->RV Φ n β x v->RV Φ (n+1) β1 y v
 |_,_,_,.same x,h=>h.more (Fz.le_refl Φ) (l9 _) hb
 |_,_,_,.unk x,_=>by simp[RV]
 |_,_,_,.sref o m m2 sz he,h=>by subst he;simp only[RV]at h ⊢;rw[hR];exact⟨y8 _,h.2⟩
 |_,_,_,.ptr o,h=>by simp only[RV]at h ⊢;rw[hR];exact⟨y8 _,h.2⟩
 |_,_,_,.agg vs us hs,h=>by simp only[RV]at h ⊢;obtain⟨arr,h1,h2⟩:=h;exact⟨arr,h1,Ufs.sound hb hR hs h2⟩
 |_,_,_,.tup vs us hs,h=>by simp only[RV]at h ⊢;obtain⟨arr,h1,h2⟩:=h;exact⟨arr,h1,Ufs.soundt hb hR hs h2⟩
theorem Ufs.sound(hb:∀i,i<n->β1 i=β i)(hR:β1 n []=β R [j]):∀{xs ys:List AV} {vs:List Value},Ufs R j n xs ys->RVs Φ n β xs vs->RVs Φ (n+1) β1 ys vs
 |_,_,_,.nil,h=>by simpa only[RVs]using h
 |_,_,_,.cons v u vs us h1 h2,h=>by simp only[RVs]at h ⊢;obtain⟨v',vs',e,o,g1,g2⟩:=h;exact⟨v',vs',e,o,Uf.sound hb hR h1 g1,Ufs.sound hb hR h2 g2⟩
theorem Ufs.soundt(hb:∀i,i<n->β1 i=β i)(hR:β1 n []=β R [j]):∀{xs ys:List AV} {vs:List Value},Ufs R j n xs ys->RVt Φ n β xs vs->RVt Φ (n+1) β1 ys vs
 |_,_,_,.nil,h=>by simpa only[RVt]using h
 |_,_,_,.cons v u vs us h1 h2,h=>by simp only[RVt]at h ⊢;obtain⟨v',vs',e,g1,g2⟩:=h;exact⟨v',vs',e,Uf.sound hb hR h1 g1,Ufs.soundt hb hR h2 g2⟩
end
def HU(R j n:Nat)(H:Heap):Heap->Prop
 |[]=>True
 |(r,some t2)::H2=>(r≠R/\∃t,H.get1 r=some t/\t2.e=t.e/\Ufs R j n t.cs t2.cs)/\HU R j n H H2
 |(_,none)::H2=>HU R j n H H2
theorem HU.root:∀{H2:Heap},HU R j n H H2->∀r t2,H2.get1 r=some t2->r≠R/\∃t,H.get1 r=some t/\t2.e=t.e/\Ufs R j n t.cs t2.cs
 |[],_,r,t2,h=>by simp[Heap.get1]at h
 |(k,some t)::H2,hs,r,t2,h=>by simp only[Heap.get1]at h;split at h;{rename_i e;subst e;cases h;exact hs.1};{exact HU.root hs.2 r t2 h}
 |(k,none)::H2,hs,r,t2,h=>by simp only[Heap.get1]at h;split at h;{cases h};{exact HU.root (show HU R j n H H2 from hs) r t2 h}
theorem HU.node(hH:HU R j n H H2){r:Nat}:∀{π:List Nat} {t2:Root},H2.get r π=some t2->r≠R/\∃t,H.get r π=some t/\t2.e=t.e/\Ufs R j n t.cs t2.cs
 |[],t2,hr=>hH.root r t2 hr
 |i::π,t2,hr=>by simp only[Heap.get]at hr ⊢;split at hr;{rename_i tp htp;obtain⟨h1,t,h2,h3,h4⟩:=HU.node hH htp;refine⟨h1,t2,?_,rfl,Ufs.refl _⟩;rw[h2];rcases(h4.get i).node with e|e;{simp only[];rw[<-e];exact hr};{rw[e]at hr;cases hr}};{cases hr}
theorem Ent.unfold{m:Nat}{e e':TypeId}{cs ds xs xs2:List AV}{sz k:Nat}(hR:H.get1 R=some ⟨e,cs⟩)(hj:cs.getD j .unk= .own e' sz k ds)(hx:Ufs R j n xs xs2)(hH:HU R j n H H2):
 Ent m xs2 ((n,some ⟨e',ds⟩)::(R,some ⟨e,cs.set j .unk⟩)::H2) (n+1) xs H n:=by
 intro Φ β vs w hm hK hh hv;have hRg:H.get R []=some ⟨e,cs⟩:=hR;have hRn:R<n:=(hh.root R [] _ hRg).1;have hj0:H.get R [j]=some ⟨e',ds⟩:=(by simp only[Heap.get,hR,hj];rfl);let β1:Spots:=λi=>if i=n then λπ=>β R (π++[j])else β i
 have b1:∀i,i<n->β1 i=β i:=λi hi=>by simp[β1,show i≠n by omega]
 have bn:∀π,β1 n π=β R (π++[j]):=λπ=>by simp[β1]
 have mo:∀x v,RV Φ n β x v->RV Φ (n+1) β1 x v:=λx v h=>h.more (Fz.le_refl Φ) (l9 _) b1;have g0:Heap.get1 ((n,some ⟨e',ds⟩)::(R,some ⟨e,cs.set j .unk⟩)::H2) n=some ⟨e',ds⟩:=(by simp[Heap.get1]);have gR:Heap.get1 ((n,some ⟨e',ds⟩)::(R,some ⟨e,cs.set j .unk⟩)::H2) R=some ⟨e,cs.set j .unk⟩:=(by simp[Heap.get1,show n≠R by omega]);have gr:∀r,r≠n->r≠R->∀π,Heap.get ((n,some ⟨e',ds⟩)::(R,some ⟨e,cs.set j .unk⟩)::H2) r π=H2.get r π:=λr h1 h2 π=>by rw[bH (λe=>h1 e.symm),bH (λe=>h2 e.symm)]
 have ej:(cs.set j .unk).getD j .unk= .unk:=(by simp[x8,aGc hj]);have dead:∀σ,Heap.get ((n,some ⟨e',ds⟩)::(R,some ⟨e,cs.set j .unk⟩)::H2) R (σ++[j])=none:=(by refine eO ?_;simp only[Heap.get,gR,ej];rfl);refine⟨Φ,β1,by omega,λi hi=>b1 i (by omega),Fz.le_refl Φ,hK,?_,hx.soundt b1 (bn []) hv⟩;refine hh.remap (λr π r0 π0=>(r≠n/\r0=r/\π0=π)\/(r=n/\r0=R/\π0=π++[j])) ?_ ?_
 · intro r π t2 hr
   by_cases hrn:r=n;{subst hrn;have hs:=aGq (H:=H) (H':=(r,some ⟨e',ds⟩)::(R,some ⟨e,cs.set j .unk⟩)::H2) (r:=R) (r':=r) (ρ:=[j]) (ρ':=[]) (by rw[hj0];exact g0) π;rw[r8]at hs;rw[hs]at hr;refine⟨y8 _,.inr ⟨R,π++[j],t2,.inr ⟨rfl,rfl,rfl⟩,hr,rfl,bn π,rfl,λvs hvs=>hvs.move mo (λi=>?_) (y8 _)⟩⟩;exact bn (i::π)}
   · by_cases hrR:r=R
     · subst hrR
       rcases qZV π with rfl|⟨σ,k',rfl⟩
       · have e2:t2=⟨e,cs.set j .unk⟩:=by
          have:Heap.get ((n,some ⟨e',ds⟩)::(r,some ⟨e,cs.set j .unk⟩)::H2) r []=some ⟨e,cs.set j .unk⟩:=gR;rw[this]at hr;cases hr;rfl
         subst e2;refine⟨by omega,.inr ⟨r,[],⟨e,cs⟩,.inl ⟨hrn,rfl,rfl⟩,hRg,rfl,by rw[b1 r hRn],by simp,λvs h=>?_⟩⟩;have hlen:=h.length;rw[aY]at hlen;refine RVs.of_get (by rw[aY];simpa using hlen) λi hi=>?_;rw[aY]at hi;have hi':i<cs.length:=(by simpa using hi);obtain⟨q1,q2⟩:=h.get i (by rw[aY];exact hi');rw[eS,p9]at q1 ⊢;refine⟨?_,q2⟩;by_cases hij:j=i;{subst hij;have:(cs.set j .unk).getD j .unk= .unk:=(by simp[x8,hi']);rw[this];simp[AV.at,RV]};{have:(cs.set j .unk).getD i .unk=cs.getD i .unk:=(by simp only[x6,o9];rw[if_neg hij]);rw[this];(cases hx0:cs.getD i .unk with|own e1 sz1 m1 ds1=>rw[hx0]at q1;simp only[AV.at,RV]at q1 ⊢;rw[b1 r hRn];exact⟨by omega,q1.2⟩|_=>rw[hx0]at q1;exact mo _ _ q1)}
       · rw[qZY]at hr ⊢
         by_cases hk:k'=j;{subst hk;rw[dead σ]at hr;cases hr}
         · have hn:=aDp (H:=H) (H':=(n,some ⟨e',ds⟩)::(r,some ⟨e,cs.set j .unk⟩)::H2) (r:=r) (r':=r) (ρ:=[]) (ρ':=[]) (i:=k') (i':=k') (t:=⟨e,cs⟩) (t':=⟨e,cs.set j .unk⟩) gR hRg (by
            have:(cs.set j .unk).getD k' .unk=cs.getD k' .unk:=(by simp only[x6,o9];rw[if_neg (λe=>hk e.symm)]);show((cs.set j .unk).getD k' .unk).node=_;rw[this]) σ
           rw[hn]at hr;refine⟨by omega,.inr ⟨r,σ++[k'],t2,.inl ⟨hrn,rfl,rfl⟩,hr,rfl,by rw[b1 r hRn],rfl,λvs hvs=>hvs.move mo (λi=>by rw[b1 r hRn]) (by omega)⟩⟩
     {rw[gr r hrn hrR]at hr;obtain⟨q1,t,q3,q4,q5⟩:=HU.node hH hr;have hrl:=(hh.root r π t q3).1;exact⟨by omega,.inr ⟨r,π,t,.inl ⟨hrn,rfl,rfl⟩,q3,q4.symm,by rw[b1 r hrl],q5.length,λvs h=>Ufs.sound b1 (bn []) q5.refer h⟩⟩}
 {intro r π r' π' q ω k1 k2 G1 G2;rcases G1 with⟨a1,a2,a3⟩|⟨a1,a2,a3⟩<;>rcases G2 with⟨d1,d2,d3⟩|⟨d1,d2,d3⟩;{exact⟨by rw[<-a2,<-d2],by rw[<-a3,<-d3]⟩};{exfalso;have e1:r=R:=(by rw[<-a2,d2]);have e2:π=π'++[j]:=(by rw[<-a3,d3]);subst e1 e2;rw[dead π']at k1;cases k1};{exfalso;have e1:r'=R:=(by rw[<-d2,a2]);have e2:π'=π++[j]:=(by rw[<-d3,a3]);subst e1 e2;rw[dead π]at k2;cases k2};{exact⟨by rw[a1,d1],by have:=a3.symm.trans d3;exact List.append_cancel_right this⟩}}
end
section
variable {P : Program} {env : List AV} {H : Heap} {n : Nat} {K : AV → Heap → Nat → Prop} {T : Type} [Inhabited T] {c : T → List AV} {sz : Nat} {xs : List T}
def Hol(base:List AV)(o m:Nat)(cs:List AV):Prop:=cs.length=base.length/\∀vs:List AV,vs.length=m->o+m<=base.length->aT cs o vs=aT base o vs
theorem cFc{base:List AV}{o m:Nat}:Hol base o m base:=⟨rfl,λ_ _ _=>rfl⟩
theorem cFp{base cs:List AV}{o m p:Nat}{x:AV}(h:Hol base o m cs)(h1:o<=p)(h2:p<o+m):Hol base o m (cs.set p x):=by refine⟨by rw[t7];exact h.1,λvs hv hl=>?_⟩;rw[<-h.2 vs hv hl,hC (by rw[t7,h.1,hv];exact hl),hC (by rw[h.1,hv];exact hl)];congr 1;{apply qXW;intro i;simp only[qQJ,o9];split;{rw[if_neg (by omega)]};{rfl}};{congr 1;apply qXW;intro i;simp only[t9,o9];rw[if_neg (by omega)]}
theorem bOr {a x:Opd} {r o i off m:Nat} {e:TypeId} {vs cs:List AV} (hc:∀x,(c x).length=sz) (ha:a.val env= .ptr r [] o) (hx:(x.val env).cells=some vs) (hm:vs.length=m) (hg:H.get1 r=some ⟨e,cs⟩) (hh:Hol (fl c xs) o m cs) (ho:o=i*sz+off) (hi:i<xs.length) (hf:off+m<=sz)
 (hk:Hld (K .und ((r,some ⟨e,aT (fl c xs) o vs⟩)::H) n)):Hld (yop P env H n K (.store m a x)):=by
 constructor;have hk:=hk.un;have hle:o+m<=(fl c xs).length:=(by rw[bE hc,ho];exact oP rfl hi hf);simp only[yop,ha,hx,Heap.get,hg];refine aQm ?_ ?_;{simp only[x5,qQV,qJZ];exact⟨hm,by rw[hh.1];exact hle⟩};{rw[hh.2 vs hm hle];simpa only[Heap.put,hg]using hk}
end
def AV.thaw:AV->AV
 | .own _ _ m ds=> .bor m ds
 |x=>x
def OkC:AV->Prop
 | .own _ sz k ds=>noOwn ds=true/\ds.length=k*sz
 |_=>True
def Shal:List AV->Prop
 |[]=>True
 |x::xs=>OkC x/\Shal xs
theorem Shal.get:∀{cs:List AV} {j:Nat},Shal cs->OkC (cs.getD j .unk)
 |[],_,_=>trivial
 |x::cs,0,h=>h.1
 |x::cs,j+1,h=>h.2.get
theorem bNp:∀{as bs:List AV},Shal as->Shal bs->Shal (as++bs)
 |[],_,_,k=>k
 |_::_,_,h,k=>⟨h.1,bNp h.2 k⟩
theorem bKv{T:Type}{c:T->List AV}(h:∀x,Shal (c x)):∀{xs:List T},Shal (fl c xs)
 |[]=>trivial
 |x::xs=>by have:fl c (x::xs)=c x++fl c xs:=(by simp[fl]);rw[this];exact bNp (h x) (bKv h)
theorem bAl{T:Type}{O B:T->List AV}{f:AV->AV}(h:∀x,(O x).map f=B x):∀{xs:List T},(fl O xs).map f=fl B xs
 |[]=>rfl
 |x::xs=>by have e1:fl O (x::xs)=O x++fl O xs:=(by simp[fl]);have e2:fl B (x::xs)=B x++fl B xs:=(by simp[fl]);rw[e1,e2,List.map_append,h,bAl h]
section
variable {R : Nat} {cs : List AV} {Φ : Fz} {n : Nat} {β : Spots} {H H2 : Heap} {w : World}
theorem bPk{j:Nat}:(cs.map AV.thaw).getD j .unk=(cs.getD j .unk).thaw:=by simp only[x6,List.getElem?_map];cases cs[j]? <;>rfl
theorem Ent.freezeT{m:Nat}{xs xs2:List AV}{e:TypeId}(hR:H.get1 R=some ⟨e,cs⟩)(hno:Shal cs)(hx:Frs R (cs.map AV.thaw) xs xs2)(hHr:∀r t2,H2.get1 r=some t2->r≠R/\∃t,H.get1 r=some t/\t2.e=t.e/\Frs R (cs.map AV.thaw) t.cs t2.cs):Ent m xs2 H2 n xs H n:=by
 intro Φ β vs w hm hK hh hv;have hR':H.get R []=some ⟨e,cs⟩:=hR;let IN:Nat->Prop:=λb=>∃π t,H.get R π=some t/\(β R π).ex=true/\(β R π).b=b;let Φ':Fz:=λb=>open Classical in if IN b then(w.heap[b]?).map (λo=>(true,o))else Φ b
 have z1:∀b,IN b->Φ' b=(w.heap[b]?).map (λo=>(true,o)):=λb h=>by simp only[Φ'];rw[if_pos h]
 have z2:∀b,¬IN b->Φ' b=Φ b:=λb h=>by simp only[Φ'];rw[if_neg h]
 have free:∀b,IN b->Φ b=none:=λb ⟨π,t,h1,h2,h3⟩=>by rw[<-h3];exact(hh.own h1 h2).1
 have hle:Φ.le Φ':=λb x h=>by rw[z2 b λhb=>by rw[free b hb]at h;cases h];exact h
 have hK':Keep Φ' w:=λb x h=>by by_cases hb:IN b;{rw[z1 b hb]at h;(cases ho:w.heap[b]? with|none=>rw[ho]at h;cases h|some o=>rw[ho]at h;cases h;rfl)};{rw[z2 b hb]at h;exact hK b x h}
 have piece:∀π t us o k sz v,H.get R π=some t->(∀vs,RVs Φ n β (refer R π 0 t.cs) vs->RVs Φ' n β us vs)->us.length=t.cs.length->o+k*sz<=t.cs.length->RV Φ n β (.sref R π o k sz) v->RV Φ' n β (.bor k ((us.drop o).take (k*sz))) v:=by intro π t us o k sz v hg hus hul hl h;simp only[RV]at h ⊢;obtain⟨_,s,cap,h1,h2,h3,h4⟩:=h;rcases h4 with⟨rfl,h6,_⟩|⟨hex,rfl,_⟩;{exact⟨s,cap,[],h1,h2,h3,.inl rfl,by simp[RVs]⟩};{obtain⟨g1,cur,g2,g3,g4,g5⟩:=hh.own hg hex;have hin:IN (β R π).b:=⟨π,t,hg,hex,rfl⟩;have hz:=z1 _ hin;rw[g2]at hz;refine⟨_,cap,(((cur.toList.drop (β R π).st).take t.cs.length).drop o).take (k*sz),h1,h2,h3,.inr ⟨_,_,cur,t.e,(0,0),rfl,hz,λi hi=>?_⟩,((hus _ g5).drop o).take (k*sz)⟩;simp only[m7,p8,Array.length_toList]at hi;have e1:((((cur.toList.drop (β R π).st).take t.cs.length).drop o).take (k*sz)).getD i undef=cur[(β R π).st+o+i]'(by omega):=(by simp[x8,qQJ,t9,show i<k*sz by omega,show o+i<t.cs.length by omega,<-m4,show(β R π).st+o+i<cur.size by omega]);rw[e1];simp[show(β R π).st+o+i<cur.size by omega]}
 have cells:∀vs,RVs Φ n β (refer R [] 0 cs) vs->RVs Φ' n β (cs.map AV.thaw) vs:=by
  intro vs h;have hlen:=h.length;rw[aY]at hlen;refine RVs.of_get (by simpa using hlen) λj hj=>?_;have hj':j<cs.length:=(by simpa using hj);obtain⟨q1,q2⟩:=h.get j (by rw[aY];exact hj');rw[eS,p9]at q1;rw[bPk];refine⟨?_,q2⟩;cases hx0:cs.getD j .unk with
  |own e1 sz1 m1 ds1=>
   rw[hx0]at q1;simp only[AV.at]at q1;have hg:H.get R [j]=some ⟨e1,ds1⟩:=(by simp only[Heap.get,hR,hx0];rfl);have hok:=hno.get (j:=j);rw[hx0]at hok;obtain⟨hnd,hl⟩:noOwn ds1=true/\ds1.length=m1*sz1:=hok;simp only[AV.thaw];have hds:∀vs,RVs Φ n β (refer R [j] 0 ds1) vs->RVs Φ' n β ds1 vs:=λvs h=>by rw[iF hnd]at h;exact h.more hle (k9 _) λ_ _=>rfl
   have:=piece [j] ⟨e1,ds1⟩ ds1 0 m1 sz1 _ hg hds rfl (by show 0+m1*sz1<=ds1.length;omega) q1;rwa[List.drop_zero,qQX (by omega)]at this
  |_=>rw[hx0]at q1;exact RV.more hle (k9 _) (λ_ _=>rfl) q1
 refine⟨Φ',β,hm,λ_ _=>rfl,hle,hK',?_,Frs.soundt hle (λo k sz v hl h=>piece [] ⟨e,cs⟩ _ o k sz v hR' cells (by simp) (by simpa using hl) h) hx hv⟩;have hrow:=λo k sz v (hl:o+k*sz<=(cs.map AV.thaw).length) h=>piece [] ⟨e,cs⟩ _ o k sz v hR' cells (by simp) (by simpa using hl) h;refine⟨λr π t2 hr=>?_,λr π r' π' h1 h2=>?_⟩;{obtain⟨h1,t,h2,h3,h4⟩:=HF.node hHr hr;obtain⟨h5,h6⟩:=hh.root r π t h2;refine⟨h5,h6.imp (λ⟨a,b⟩=>⟨a,by have:=h4.length;rw[b]at this;exact m6.1 this⟩) λ⟨a,b,cur',c1,c2,c3,c4⟩=>⟨a,?_,cur',by rw[h3];exact c1,c2,by rw[h4.length];exact c3,by rw[h4.length];exact Frs.sound hle hrow h4.refer c4⟩⟩;rw[z2 _ λ⟨π0,t0,k1,k2,k3⟩=>h1 (hh.apart r π R π0 (by simp[h2]) (by simp[k1]) a k2 k3.symm).1];exact b};{obtain⟨t,ht⟩:=y3.1 h1;obtain⟨t',ht'⟩:=y3.1 h2;obtain⟨_,u,hu,_⟩:=HF.node hHr ht;obtain⟨_,u',hu',_⟩:=HF.node hHr ht';exact hh.apart r π r' π' (by simp[hu]) (by simp[hu'])}
theorem Frs.set{cs0:List AV}:∀{xs ys:List AV} {i:Nat} {x y:AV},Frs R cs0 xs ys->Fr R cs0 x y->Frs R cs0 (xs.set i x) (ys.set i y)
 |_,_,_,_,_,.nil,_=> .nil
 |_,_,0,_,_,.cons v u vs us h1 h2,k=> .cons _ _ _ _ k h2
 |_,_,i+1,_,_,.cons v u vs us h1 h2,k=> .cons _ _ _ _ h1 (h2.set k)
variable {T : Type} [Inhabited T] {O B : T → List AV} {sz : Nat} {xs zs : List T} {us us2 : List AV} {e : TypeId} {m : Nat}
theorem Ent.freezeOK(hR:H.get1 R=some ⟨e,fl O xs⟩)(hth:∀x,(O x).map AV.thaw=B x)(hsh:∀x,Shal (O x))(hx:Frs R (fl B xs) us us2):Ent m us2 ((R,none)::H) n us H n:=Ent.freezeT hR (bKv hsh) (by rw[bAl hth];exact hx) λr t2 h=>by simp only[Heap.get1]at h;split at h;{cases h};{rename_i e;exact⟨λx=>e x.symm,t2,h,rfl,Frs.refl _⟩}
end
theorem aVu:Shal []:=trivial
theorem aZ{x:AV}{xs:List AV}(h:OkC x)(k:Shal xs):Shal (x::xs):=⟨h,k⟩
section
variable {R j n : Nat} {env : List AV} {H H2 : Heap}
theorem bXb{cs:List AV}{p:Nat}{x u:AV}(hne:p≠j)(h:cs.getD j .unk=x):(List.set cs p u).getD j .unk=x:=by rw[<-h];simp only[x6,o9];rw[if_neg hne]
theorem Ufs.of_get:∀{xs ys:List AV},ys.length=xs.length->(∀t,t<xs.length->Uf R j n (xs.getD t .unk) (ys.getD t .unk))->Ufs R j n xs ys
 |[],ys,h,_=>by obtain rfl:ys=[]:=m6.1 (by simpa using h);exact .nil
 |x::xs,[],h,_=>by simp at h
 |x::xs,y::ys,h,k=> .cons _ _ _ _ (k 0 (by simp)) (Ufs.of_get (by simpa using h) λt ht=>by simpa using k (t+1) (by simpa using ht))
def UFL(R j n:Nat)(env:List AV):List (Nat×AV)->Prop
 |[]=>True
 |(i,v)::l=>Uf R j n (env.getD i .unk) v/\UFL R j n env l
theorem UFL.mem:∀{l:List (Nat×AV)},UFL R j n env l->∀{i v},(i,v)∈l->Uf R j n (env.getD i .unk) v
 |[],_,_,_,h=>by cases h
 |(k,u)::l,hl,i,v,h=>by rcases g8.1 h with e|h;{cases e;exact hl.1};{exact hl.2.mem h}
end
section
variable {H H2 : Heap} {R n m e i off o : Nat} {T : Type} [Inhabited T] {c : T → List AV} {sz : Nat} {xs zs : List T} {y x0 : T} {vs ws us us2 : List AV} {L : List (Option (Option Nat))}
end
section
variable {H : Heap} {T : Type} [Inhabited T] {O B : T → List AV} {sz r k i o : Nat} {e : TypeId} {xs zs : List T} {y : T} {vs us : List AV}
theorem bXp(oc:oG O B)(hc:∀x,(O x).length=sz)(hk:k=xs.length)(hg:H.get1 r=some ⟨e,aT (fl O xs) o vs⟩)(ho:o=i*sz)(hi:i<xs.length)(hl:vs.length=sz)(hn:noOwn vs=true)(hv:Clos H vs us)(hy:us=B y)(hz:xs.set i y=zs):Clo H (.sref r [] 0 k sz) (.bor zs.length (fl B zs)):=by
 subst hk;subst hz;subst hy;subst ho;have hle:i*sz+vs.length<=(fl O xs).length:=(by rw[bE hc,hl];have:(i+1)*sz<=xs.length*sz:=qQZ sz hi;rw[qZQ,Nat.one_mul]at this;exact this);have e1:aT (fl O xs) (i*sz) vs=fl O (xs.take i)++(vs++fl O (xs.drop (i+1))):=(by rw[hC hle,oI hc,hl,show i*sz+sz=(i+1)*sz by rw[qZQ,Nat.one_mul],qI hc]);have e2:xs.set i y=xs.take i++y::xs.drop (i+1):=(by rw[List.set_eq_take_append_cons_drop,if_pos hi]);have l1:(fl O (xs.take i)).length=i*sz:=(by rw[bE hc,m7,Nat.min_eq_left (by omega)]);rw[e1]at hg;have hg':H.get r []=some ⟨e,fl O (xs.take i)++(vs++fl O (xs.drop (i+1)))⟩:=hg;have hlen:(fl O (xs.take i)++(vs++fl O (xs.drop (i+1)))).length=xs.length*sz:=(by rw[<-e1,hC hle];rw[<-bE hc (xs:=xs)];simp only[y5,m7,p8];omega);refine .sref r [] 0 _ _ sz _ _ hg' (by rw[hlen];omega) (by rw[t7]) ?_;rw[List.drop_zero,qQX (by rw[aY,hlen];exact k9 _),aDu,aDu,p9,e2,<-zK];have e3:fl B (y::xs.drop (i+1))=B y++fl B (xs.drop (i+1)):=(by simp[fl]);rw[e3,iF hn];refine aHz (aHb oc λk t hk=>?_) (aHz hv (aHb oc λk t hk=>?_));{have hlt:=aVw hk;have hgd:(fl O (xs.take i)++(vs++fl O (xs.drop (i+1)))).getD (0+k) .unk=(fl O (xs.take i)).getD k .unk:=(by rw[p9];simp only[x6];rw[e7 hlt]);simp only[Heap.get,hg];rw[hgd];exact hk}
 · have hgd:(fl O (xs.take i)++(vs++fl O (xs.drop (i+1)))).getD ((fl O (xs.take i)).length+vs.length+k) .unk=(fl O (xs.drop (i+1))).getD k .unk:=by
    simp only[x6];rw[d9 (by omega),d9 (by omega)];congr 2;omega
   simp only[Heap.get,hg];rw[hgd];exact hk
end
mutual
inductive Dk : AV → AV → Prop
 |same (x:AV):Dk x x
 |unk (x:AV):Dk x .unk
 |agg (vs us:List AV):Dks vs us->Dk (.agg vs) (.agg us)
 |tup (vs us:List AV):Dks vs us->Dk (.tup vs) (.tup us)
inductive Dks : List AV → List AV → Prop
 |nil:Dks [] []
 |cons (v u:AV) (vs us:List AV):Dk v u->Dks vs us->Dks (v::vs) (u::us)
end
section
variable {Φ : Fz} {n : Nat} {β : Spots}
mutual
theorem Dk.sound:∀{x y:AV} {v:Value},Dk x y->RV Φ n β x v->RV Φ n β y v
 |_,_,_,.same x,h=>h
 |_,_,_,.unk x,_=>by simp[RV]
 |_,_,_,.agg vs us hs,h=>by simp only[RV]at h ⊢;obtain⟨arr,h1,h2⟩:=h;exact⟨arr,h1,Dks.sound hs h2⟩
 |_,_,_,.tup vs us hs,h=>by simp only[RV]at h ⊢;obtain⟨arr,h1,h2⟩:=h;exact⟨arr,h1,Dks.soundt hs h2⟩
theorem Dks.sound:∀{xs ys:List AV} {vs:List Value},Dks xs ys->RVs Φ n β xs vs->RVs Φ n β ys vs
 |_,_,_,.nil,h=>h
 |_,_,_,.cons v u vs us h1 h2,h=>by simp only[RVs]at h ⊢;obtain⟨v',vs',e,o,g1,g2⟩:=h;exact⟨v',vs',e,o,Dk.sound h1 g1,Dks.sound h2 g2⟩
theorem Dks.soundt:∀{xs ys:List AV} {vs:List Value},Dks xs ys->RVt Φ n β xs vs->RVt Φ n β ys vs
 |_,_,_,.nil,h=>h
 |_,_,_,.cons v u vs us h1 h2,h=>by simp only[RVt]at h ⊢;obtain⟨v',vs',e,g1,g2⟩:=h;exact⟨v',vs',e,Dk.sound h1 g1,Dks.soundt h2 g2⟩
end
theorem Dks.length:∀{xs ys:List AV},Dks xs ys->ys.length=xs.length
 |_,_,.nil=>rfl
 |_,_,.cons _ _ _ _ _ h=>by simp[Dks.length h]
theorem RVt.put:∀{xs:List AV} {vs:List Value} {k:Nat} {y:AV},RVt Φ n β xs vs->RV Φ n β y (vs.getD k undef)->RVt Φ n β (xs.set k y) vs
 |[],_,_,_,h,_=>h
 |x::xs,vs,k,y,h,hy=>by simp only[RVt]at h;obtain⟨v,vs',rfl,h1,h2⟩:=h;(cases k with|zero=>simp only[List.set_cons_zero,RVt];exact⟨v,vs',rfl,by simpa using hy,h2⟩|succ k=>simp only[List.set_cons_succ,RVt];exact⟨v,vs',rfl,h1,RVt.put h2 (by simpa using hy)⟩)
end
section
variable {H : Heap} {n m R c k sz : Nat} {cs : List AV} {e : TypeId}
theorem bRv{Φ:Fz}{β:Spots}{w:World}{v:Value}(hh:RH Φ n β H w)(hR:H.get1 R=some ⟨e,cs⟩)(hno:noOwn cs=true)(hl:c+k*sz<=cs.length)(hv:RV Φ n β (.sref R [] c k sz) v):
 ∃S:Spot,(S.ex=true->S.b=(β R []).b/\(β R []).ex=true)/\(∀β':Spots,(∀i,i<n->β' i=β i)->(∀π,β' n π=S)->RV Φ (n+1) β' (.sref n [] 0 k sz) v/\NodeIs Φ (n+1) β' w n [] ⟨e,(cs.drop c).take (k*sz)⟩):=by
 have hR':H.get R []=some ⟨e,cs⟩:=hR;simp only[RV]at hv;obtain⟨hRn,s,cap,h1,h2,h3,h4⟩:=hv;rcases h4 with⟨rfl,rfl,_⟩|⟨hex,rfl,h5⟩;{refine⟨⟨false,0,0,0⟩,λh=>(by cases h),λβ' _ hn=>⟨?_,?_⟩⟩;{simp only[RV,hn];exact⟨y8 n,s,0,h1,h2,h3,.inl ⟨trivial,rfl,.inr trivial⟩⟩};{unfold NodeIs;rw[hn];exact .inl ⟨rfl,by simp⟩}};{obtain⟨g1,cur,g2,g3,g4,g5⟩:=hh.own hR' hex;rw[iF hno]at g5;have g4:cs.length<=(β R []).tot:=g4;refine⟨⟨true,(β R []).b,(β R []).tot-c,(β R []).st+c⟩,λ_=>⟨rfl,hex⟩,λβ' hb hn=>⟨?_,?_⟩⟩;{simp only[RV,hn];exact⟨y8 n,_,cap,h1,h2,h3,.inr ⟨trivial,rfl,by omega⟩⟩};{unfold NodeIs;rw[hn];refine .inr ⟨rfl,g1,cur,g2,by simp only;omega,by simp only[m7,p8];omega,?_⟩;have hno2:noOwn ((cs.drop c).take (k*sz))=true:=(by unfold noOwn at hno ⊢;rw[w5]at hno ⊢;exact λx hx=>hno x (List.mem_of_mem_drop (List.mem_of_mem_take hx)));show RVs Φ (n+1) β' (refer n [] 0 ((cs.drop c).take (k*sz))) ((cur.toList.drop ((β R []).st+c)).take ((cs.drop c).take (k*sz)).length);rw[iF hno2];have h6:=((g5.drop c).take (k*sz)).more (Fz.le_refl Φ) (l9 n) hb;have e1:o5 (k*sz) (qQK c (o5 cs.length (qQK (β R []).st cur.toList)))=(cur.toList.drop ((β R []).st+c)).take ((cs.drop c).take (k*sz)).length:=(by rw[List.drop_take,List.take_take,List.drop_drop,m7,p8]);have h6:RVs Φ (n+1) β' ((cs.drop c).take (k*sz)) (o5 (k*sz) (qQK c (o5 cs.length (qQK (β R []).st cur.toList)))):=h6;rw[e1]at h6;exact h6}}
theorem Dk.node{x y:AV}(h:Dk x y):y.node=x.node\/y.node=none:=by
 cases h
 case same=>exact .inl rfl
 all_goals exact .inr rfl
theorem Dks.get:∀{xs ys:List AV},Dks xs ys->∀i,Dk (xs.getD i .unk) (ys.getD i .unk)
 |_,_,.nil,i=>by simpa using Dk.same .unk
 |_,_,.cons v u vs us h1 h2,0=>by simpa using h1
 |_,_,.cons v u vs us h1 h2,i+1=>by simpa using h2.get i
theorem Dks.of_get:∀{xs ys:List AV},ys.length=xs.length->(∀t,t<xs.length->Dk (xs.getD t .unk) (ys.getD t .unk))->Dks xs ys
 |[],ys,h,_=>by obtain rfl:ys=[]:=m6.1 (by simpa using h);exact .nil
 |x::xs,[],h,_=>by simp at h
 |x::xs,y::ys,h,hg=> .cons _ _ _ _ (by simpa using hg 0 (by simp)) (Dks.of_get (by simpa using h) λt ht=>by simpa using hg (t+1) (by simpa using ht))
theorem Dk.at{x y:AV}{r:Nat}{π:List Nat}{i:Nat}(h:Dk x y):Dk (x.at r π i) (y.at r π i):=by
 (cases h with|same=>exact .same _|unk=>exact .unk _|agg vs us h=>exact .agg _ _ h|tup vs us h=>exact .tup _ _ h)
theorem Dks.refer{r:Nat}{π:List Nat}:∀{xs ys:List AV} {i:Nat},Dks xs ys->Dks (Go.Proofs.YtcgggihjcelmhaaGreat.refer r π i xs) (Go.Proofs.YtcgggihjcelmhaaGreat.refer r π i ys)
 |_,_,_,.nil=> .nil
 |_,_,i,.cons v u vs us h1 h2=>by simp only[Go.Proofs.YtcgggihjcelmhaaGreat.refer];exact .cons _ _ _ _ h1.at h2.refer
theorem DF.node{H2:Heap}(h:∀r t2,r≠n->H2.get1 r=some t2->r≠R/\∃t,H.get1 r=some t/\t2.e=t.e/\Dks t.cs t2.cs){r:Nat}(hr0:r≠n):∀{π:List Nat} {t2:Root},H2.get r π=some t2->r≠R/\∃t,H.get r π=some t/\t2.e=t.e/\Dks t.cs t2.cs
 |[],t2,hr=>h r t2 hr0 hr
 |i::π,t2,hr=>by
  simp only[Heap.get]at hr ⊢;split at hr
  · rename_i tp htp
    obtain⟨h1,t,h2,h3,h4⟩:=DF.node h hr0 htp;refine⟨h1,t2,?_,rfl,?_⟩;{rw[h2];rcases(h4.get i).node with e|e;{simp only[];rw[<-e];exact hr};{rw[e]at hr;cases hr}}
    · have same:∀l:List AV,Dks l l:=λl=>by
       induction l with
       |nil=>exact .nil
       |cons x l ih=>exact .cons _ _ _ _ (.same x) ih
      exact same _
  {cases hr}
theorem Ent.cutS {j:Nat} {xs ys:List AV} {H2:Heap} (hR:H.get1 R=some ⟨e,cs⟩) (hno:noOwn cs=true) (hj:xs.getD j .unk= .sref R [] c k sz) (hjl:j<xs.length) (hl:c+k*sz<=cs.length) (hx:Dks xs ys)
 (hn2:H2.get1 n=some ⟨e,(cs.drop c).take (k*sz)⟩) (hH2:∀r t2,r≠n->H2.get1 r=some t2->r≠R/\∃t,H.get1 r=some t/\t2.e=t.e/\Dks t.cs t2.cs):
 Ent m (ys.set j (.sref n [] 0 k sz)) H2 (n+1) xs H n:=by
 intro Φ β vs w hm hK hh hv;have hR':H.get R []=some ⟨e,cs⟩:=hR;have hvj:=hv.get j hjl;rw[hj]at hvj;obtain⟨S,hS,hcut⟩:=bRv hh hR hno hl hvj;generalize hβ:(λi=>if i=n then λ_=>S else β i:Spots)=β';have hβn:∀π,β' n π=S:=λπ=>by rw[<-hβ];simp
 have hβo:∀i,i<n->β' i=β i:=λi hi=>by rw[<-hβ];simp[show i≠n by omega]
 obtain⟨hnv,hnn⟩:=hcut β' hβo hβn;have hRn:=(hh.root R [] _ hR').1;have hno2:noOwn ((cs.drop c).take (k*sz))=true:=by unfold noOwn at hno ⊢;rw[w5]at hno ⊢;exact λx hx=>hno x (List.mem_of_mem_drop (List.mem_of_mem_take hx))
 have hnew:∀π t,H2.get n π=some t->π=[]/\t=⟨e,(cs.drop c).take (k*sz)⟩:=by
  intro π t ht;rcases qZV π with rfl|⟨σ,i,rfl⟩;{have ht:H2.get1 n=some t:=ht;rw[hn2]at ht;exact⟨rfl,(w7.inj ht).symm⟩}
  · have hd:H2.get n [i]=none:=by
     have hnj:=vN hno2 i;show(match H2.get1 n with|some t=>_|none=>none)=none;rw[hn2];exact hnj
    rw[qZY,eO hd σ]at ht;cases ht
 refine⟨Φ,β',by omega,λi hi=>hβo i (by omega),Fz.le_refl Φ,hK,⟨λr π t hr=>?_,λr π r' π' hr hr' hx1 hx2 he=>?_⟩,?_⟩;{by_cases e1:r=n;{subst e1;obtain⟨rfl,rfl⟩:=hnew π t hr;exact⟨y8 _,hnn⟩};{obtain⟨_,u,h2,h3,h4⟩:=DF.node hH2 e1 hr;obtain⟨a,b⟩:=hh.root r π u h2;have b:=b.keep (Φ':=Φ) (n':=n+1) (β':=β') (w':=w) a (Fz.le_refl Φ) (l9 n) hβo (λhx=>(hh.own h2 hx).1) (λ_=>rfl);refine⟨by omega,b.imp (λ⟨q1,q2⟩=>⟨q1,by have:=h4.length;rw[q2]at this;exact m6.1 this⟩) λ⟨q1,q2,cur,q3,q4,q5,q6⟩=>⟨q1,q2,cur,by rw[h3];exact q3,q4,by rw[h4.length];exact q5,by rw[h4.length];exact Dks.sound h4.refer q6⟩⟩}};{obtain⟨t,ht⟩:=y3.1 hr;obtain⟨t',ht'⟩:=y3.1 hr';by_cases e1:r=n<;>by_cases e2:r'=n;{subst e1;subst e2;obtain⟨rfl,_⟩:=hnew π t ht;obtain⟨rfl,_⟩:=hnew π' t' ht';exact⟨rfl,rfl⟩};{subst e1;obtain⟨h2,u,h3,_⟩:=DF.node hH2 e2 ht';have a:=(hh.root r' π' u h3).1;rw[hβn]at hx1 he;rw[hβo r' a]at hx2 he;obtain⟨hb,hRx⟩:=hS hx1;rw[hb]at he;exact absurd (hh.apart R [] r' π' (by rw[hR'];rfl) (by rw[h3];rfl) hRx hx2 he).1.symm h2};{subst e2;obtain⟨h2,u,h3,_⟩:=DF.node hH2 e1 ht;have a:=(hh.root r π u h3).1;rw[hβn]at hx2 he;rw[hβo r a]at hx1 he;obtain⟨hb,hRx⟩:=hS hx2;rw[hb]at he;exact absurd (hh.apart r π R [] (by rw[h3];rfl) (by rw[hR'];rfl) hx1 hRx he).1 h2};{obtain⟨_,u,h3,_⟩:=DF.node hH2 e1 ht;obtain⟨_,u',h3',_⟩:=DF.node hH2 e2 ht';rw[hβo r (hh.root r π u h3).1]at hx1 he;rw[hβo r' (hh.root r' π' u' h3').1]at hx2 he;exact hh.apart r π r' π' (by rw[h3];rfl) (by rw[h3'];rfl) hx1 hx2 he}};{exact RVt.put ((Dks.soundt hx hv).more (Fz.le_refl Φ) (l9 n) hβo) hnv}
end
end Go.Proofs.YtcgggihjcelmhaaGreat
namespace Go.Proofs.YtcgggihjcelmhaaGreat
open Bool renaming and_eq_true → x5, not_eq_true' → u0, or_eq_true → r9
open List renaming getD_eq_getElem?_getD → x6, getD → x8, replicate → j0, all_eq_true → w5, length_append → y5, length_cons → y7, getElem?_eq_getElem → y9, getElem?_append_right → d9, getElem?_append_left → e7, mem_range → f8, mem_cons → g8, length_replicate → l6, map_cons → m5, length_eq_zero_iff → m6, length_take → m7, cons_append → n7, getElem?_eq_some_iff → n9, take → o5, getElem?_set → o9, length_drop → p8, nil_append → r6, getD_cons_succ → r7, append_nil → r8, length_set → t7, getElem?_drop → t9, take_of_length_le → qQX, getElem?_take → qQJ, drop → qQK, getD_cons_zero → qQW, eq_nil_or_concat → qZV, concat_eq_append → qZY, ext_getElem? → qXW, contains_eq_mem → qJX
open Nat renaming le_refl → k9, lt_succ_self → y8, beq → f9, le_succ → l9, add_assoc → m4, zero_le → m9, lt_of_lt_of_le → o7, zero_add → p9, le_trans → qQQ, mul_le_mul_right → qQZ, ble_eq → qQV, add_mul → qZQ, ble → qZH, beq_eq → qJZ
open Option renaming some → w7, map_eq_some_iff → w9, isSome_iff_exists → y3
set_option linter.all false
section
variable {α β S R T : Type}
def Ex(x:Option α)(Q:α->Prop):Prop:=∃a,x=some a/\Q a
theorem Ex.ret{a:α}{Q:α->Prop}(h:Q a):Ex (some a) Q:=⟨a,rfl,h⟩
theorem Ex.grd{c:Prop}[Decidable c]{x:Option α}{Q:α->Prop}(hc:c)(h:Ex x Q):Ex (grd c x) Q:=by unfold Ex;rw[aB hc];exact h
theorem Ex.cond{b:Bool}{x y:Option α}{Q:α->Prop}(h1:b=true->Ex x Q)(h2:b=false->Ex y Q):Ex (cond b x y) Q:=by cases b;{exact h2 rfl};{exact h1 rfl}
theorem Ex.bind{x:Option α}{k:α->Option β}{P:α->Prop}{Q:β->Prop}(h:Ex x P)(hk:∀a,P a->Ex (k a) Q):Ex (Option.bind x k) Q:=by obtain⟨a,h1,h2⟩:=h;unfold Ex;rw[h1];exact hk a h2
theorem Ex.mono{x:Option α}{P Q:α->Prop}(h:Ex x P)(hk:∀a,P a->Q a):Ex x Q:=by obtain⟨a,h1,h2⟩:=h;exact⟨a,h1,hk a h2⟩
theorem Ex.join{x:Option (JO S R)}{k:S->Option R}{P:S->Prop}{Q:R->Prop}(h:Ex x (λj=>∃s,j= .go s/\P s))(hk:∀s,P s->Ex (k s) Q):Ex (Option.bind x (λj=>JO.run j k)) Q:=by obtain⟨_,h1,s,rfl,h2⟩:=h;unfold Ex;rw[h1];exact hk s h2
theorem Ex.loop {step:S->Option (LO S R)} (Inv:S->Prop) (μ:S->Nat) {Q:LO S R->Prop}
 (h:∀s,Inv s->Ex (step s) (λo=>(∃s',o= .next s'/\Inv s'/\μ s'<μ s)\/((∀s',o≠ .next s')/\Q o))):∀s,Inv s->Ex (iter step s) Q:=by
 have key:∀k s,μ s<k->Inv s->Ex (iter step s) Q:=by
  intro k;induction k with
  |zero=>intro s hs;omega
  |succ k ih=>intro s hs hi;obtain⟨o,h1,h2⟩:=h s hi;rcases h2 with⟨s',rfl,h3,h4⟩|⟨h3,h4⟩;{obtain⟨a,g1,g2⟩:=ih s' (by omega) h3;refine⟨a,?_,g2⟩;rw[cR,h1];exact g1};{refine⟨o,?_,h4⟩;rw[cR,h1];(cases o with|next s'=>exact absurd rfl (h3 s')|brk s'=>rfl|ret r=>rfl)}
 exact λs hi=>key (μ s+1) s (y8 _) hi
theorem Ex.loopv {step:S->Option (LO S (JO T R))} (Inv:S->Prop) (μ:S->Nat) (P:T->Prop) {s:S} (hi:Inv s)
 (h:∀s,Inv s->Ex (step s) (λo=>(∃s',o= .next s'/\Inv s'/\μ s'<μ s)\/∃t,o= .ret (.go t)/\P t)):Ex (Option.bind (iter step s) LO.val) (λj=>∃t,j= .go t/\P t):=by
 refine Ex.bind (Ex.loop Inv μ (Q:=λo=>∃t,o= .ret (.go t)/\P t) (λs hs=>(h s hs).mono ?_) s hi) ?_
 · rintro o (h|⟨t,rfl,h⟩)
   {exact .inl h};{exact .inr ⟨λs'=>by simp,t,rfl,h⟩}
 · rintro o ⟨t,rfl,h⟩
   exact⟨_,rfl,t,rfl,h⟩
end
end Go.Proofs.YtcgggihjcelmhaaGreat
