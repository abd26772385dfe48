/- The machine in which the program is read. No program is named here. -/
import Derived.Test.YtcgggihjcelmhaaGreatZJ
namespace Go.Proofs.YtcgggihjcelmhaaGreat
open Bool renaming and_eq_true → x5, not_eq_true' → u0, false_eq_true → o8, or_eq_true → r9, false_or → qQU
open List renaming getD → x8, replicate → j0, all_eq_true → w5, length_append → y5, length_cons → y7, getElem?_eq_getElem → y9, range → u7, mem_singleton → u9, getElem?_append_right → d9, mem_range → f8, mem_cons → g8, map_cons → m5, length_eq_zero_iff → m6, mem_cons_of_mem → m8, cons_append → n7, getElem?_eq_some_iff → n9, mem_append → p7, mem_filter → qZJ
open Nat renaming le_refl → k9, zero_le → m9, lt_of_lt_of_le → o7, le_trans → qQQ, le_of_not_lt → qJK
open Option renaming some → w7, map_eq_some_iff → w9, isSome_iff_exists → y3
set_option linter.all false
open Go.RowKit
def Ent(m:Nat)(xs2:List AV)(H2:Heap)(n2:Nat)(xs:List AV)(H:Heap)(n:Nat):Prop:=∀(Φ:Fz) (β:Spots) (vs:List Value) (w:World),m<=n->Keep Φ w->RH Φ n β H w->RVt Φ n β xs vs->∃Φ2 β2,m<=n2/\(∀i,i<m->β2 i=β i)/\Φ.le Φ2/\Keep Φ2 w/\RH Φ2 n2 β2 H2 w/\RVt Φ2 n2 β2 xs2 vs
theorem Ent.refl{m:Nat}{xs:List AV}{H:Heap}{n:Nat}:Ent m xs H n xs H n:=λΦ β _ _ hm hK hH hv=>⟨Φ,β,hm,λ_ _=>rfl,Fz.le_refl Φ,hK,hH,hv⟩
theorem Ent.trans{m:Nat}{xs xs2 xs3:List AV}{H H2 H3:Heap}{n n2 n3:Nat}(h:Ent m xs3 H3 n3 xs2 H2 n2)(k:Ent m xs2 H2 n2 xs H n):Ent m xs3 H3 n3 xs H n:=by intro Φ β vs w hm hK hH hv;obtain⟨Φ2,β2,a1,a2,a3,a4,a5,a6⟩:=k Φ β vs w hm hK hH hv;obtain⟨Φ3,β3,b1,b2,b3,b4,b5,b6⟩:=h Φ2 β2 vs w a1 a4 a5 a6;exact⟨Φ3,β3,b1,λi hi=>(b2 i hi).trans (a2 i hi),a3.trans b3,b4,b5,b6⟩
theorem RVt.get{Φ:Fz}{n:Nat}{β:Spots}:∀{xs:List AV} {vs:List Value},RVt Φ n β xs vs->∀(i:Nat),i<xs.length->RV Φ n β (xs.getD i .unk) (vs.getD i undef)
 |[],_,_,_,hi=>by simp at hi
 |x::xs,_,h,i,hi=>by simp only[RVt]at h;obtain⟨v,vs',rfl,h1,h2⟩:=h;(cases i with|zero=>exact h1|succ i=>simpa using h2.get i (by simpa using hi))
theorem RVt.of_get{Φ:Fz}{n:Nat}{β:Spots}:∀{xs:List AV} {vs:List Value},vs.length=xs.length->(∀i,i<xs.length->RV Φ n β (xs.getD i .unk) (vs.getD i undef))->RVt Φ n β xs vs
 |[],vs,h,_=>by simp only[RVt];exact m6.1 (by simpa using h)
 |x::xs,[],h,_=>by simp at h
 |x::xs,v::vs,h,k=>by simp only[RVt];refine⟨v,vs,rfl,k 0 (by simp),RVt.of_get (by simpa using h) λi hi=>?_⟩;simpa using k (i+1) (by simpa using hi)
theorem Env.rvt{Φ:Fz}{n:Nat}{β:Spots}{env:List AV}{a:Act}(h:Env Φ n β env a):RVt Φ n β env a.tmps.toList:=by refine RVt.of_get (by simpa using h.len.symm) λi hi=>?_;have h1:=h.rel i;have hl:=h.len;have e:a.tmps.toList.getD i undef=a.tmps.getD i undef:=(by simp[x8,Array.getD,show i<a.tmps.size by omega]);rw[e];exact h1
theorem Env.of_rvt{Φ:Fz}{n:Nat}{β:Spots}{env:List AV}{a:Act}(h:RVt Φ n β env a.tmps.toList):Env Φ n β env a:=by have hl:=h.length;simp only[Array.length_toList]at hl;refine⟨λt=>?_,hl.symm⟩;by_cases ht:t<env.length;{have h1:=h.get t ht;have e:a.tmps.toList.getD t undef=a.tmps.getD t undef:=(by simp[x8,Array.getD,show t<a.tmps.size by omega]);rwa[e]at h1};{simp[x8,ht,RV]}
theorem Rel.ent{w0:World}{Φ:Fz}{n m n2:Nat}{β:Spots}{env env2:List AV}{H H2:Heap}{a:Act}{w:World}(h:Rel w0 Φ n β env H a w)(hm:m<=n)(hs:Ent m env2 H2 n2 env H n):
 ∃Φ2 β2,(∀i,i<m->β2 i=β i)/\m<=n2/\Φ.le Φ2/\Rel w0 Φ2 n2 β2 env2 H2 a w:=by
 obtain⟨Φ2,β2,h1,h2,h3,h4,h5,h6⟩:=hs Φ β _ w hm h.keep h.heap h.env.rvt;exact⟨Φ2,β2,h2,h1,h3,⟨Env.of_rvt h6,h5,h4,h.since,h.defers⟩⟩
theorem aZv(p:Nat->Prop):∀k,p k->∃k,p k/\∀j,p j->k<=j:=by
 intro k;induction k using Nat.strongRecOn with
 |_ k ih=>intro hk;by_cases h:∃j,j<k/\p j;{obtain⟨j,hj,hp⟩:=h;exact ih j hj hp};{exact⟨k,hk,λj hj=>qJK λhlt=>h ⟨j,hlt,hj⟩⟩}
section
variable {P : Program} {Q : Post} {env : List AV} {H : Heap} {n m : Nat}
def cFa(I:List AV->Heap->Nat->Prop)(μ:List AV->Heap->Nat->Nat)(m k:Nat)(Q:Post):Post
 | .normal=>λenv H n=>∃env2 H2 n2,Ent m env2 H2 n2 env H n/\I env2 H2 n2/\μ env2 H2 n2<k
 |e=>Q e
theorem Aw.loop {x:LCode} (I:List AV->Heap->Nat->Prop) (μ:List AV->Heap->Nat->Nat) (h0:∃env2 H2 n2,Ent m env2 H2 n2 env H n/\I env2 H2 n2)
 (round:∀env2 H2 n2,I env2 H2 n2->Aw P m x (cFa I μ m (μ env2 H2 n2) Q) env2 H2 n2):Aw P m (.loop x) Q env H n:=by
 intro cc hcc w0 Φ β a w hm hR;cases cc<;>simp only[eN,w7.injEq,reduceCtorEq]at hcc
 case loop cx=>
  obtain⟨lx,g1,g2⟩:=w9.1 hcc;cases g2;let J:Nat->Act->World->Prop:=λk a w=>∃env2 H2 n2 Φ2 β2,I env2 H2 n2/\μ env2 H2 n2=k/\m<=n2/\(∀i,i<m->β2 i=β i)/\Φ.le Φ2/\Rel w0 Φ2 n2 β2 env2 H2 a w;let ν:Act->World->Nat:=λa w=>open Classical in if h:∃k,J k a w then Classical.choose (aZv (λk=>J k a w) h.choose h.choose_spec)else 0
  have hν:∀a w,(∃k,J k a w)->J (ν a w) a w/\∀j,J j a w->ν a w<=j:=λa w h=>by have e:ν a w=Classical.choose (aZv (λk=>J k a w) h.choose h.choose_spec):=(by simp only[ν];rw[dif_pos h]);rw[e];exact Classical.choose_spec (aZv (λk=>J k a w) h.choose h.choose_spec)
  refine wp_loop (λa w=>∃k,J k a w) ν ?_ ?_;{obtain⟨env2,H2,n2,hs,hI⟩:=h0;obtain⟨Φ2,β2,k1,k2,k3,k4⟩:=hR.ent hm hs;exact⟨_,env2,H2,n2,Φ2,β2,hI,rfl,k2,k1,k3,k4⟩}
  · intro a w hJ
    obtain⟨⟨env2,H2,n2,Φ2,β2,hI,hμ,k2,k1,k0,k3⟩,_⟩:=hν a w hJ;refine wp_mono (round env2 H2 n2 hI cx g1 w0 Φ2 β2 a w k2 k3) λe a' w' hq=>?_;obtain⟨o,env',H',n',Φ',β',q1,q2,q3,q4,q5,q6⟩:=hq;cases e<;>simp only[aMm,w7.injEq,reduceCtorEq]at q1<;>subst q1
    case normal=>obtain⟨env3,H3,n3,hs,hI3,hlt⟩:=q2;obtain⟨Φ3,β3,l1,l2,l3,l4⟩:=q6.ent q3 hs;have hJ3:J (μ env3 H3 n3) a' w':=⟨env3,H3,n3,Φ3,β3,hI3,rfl,l2,λi hi=>by rw[l1 i hi,q4 i hi,k1 i hi],(k0.trans q5).trans l3,l4⟩;refine⟨⟨_,hJ3⟩,?_⟩;have:=(hν a' w' ⟨_,hJ3⟩).2 _ hJ3;omega
    case exit i=>exact⟨_,env',H',n',Φ',β',rfl,q2,q3,λi hi=>(q4 i hi).trans (k1 i hi),k0.trans q5,q6⟩
    case ret=>exact⟨_,env',H',n',Φ',β',rfl,q2,q3,λi hi=>(q4 i hi).trans (k1 i hi),k0.trans q5,q6⟩
 case region=>rcases iN hcc with⟨_,_,e⟩|⟨_,_,e⟩|⟨_,_,e⟩|⟨_,e⟩<;>cases e
 case seq=>split at hcc<;>simp at hcc
 case cond=>split at hcc<;>simp at hcc
 all_goals simp at hcc
theorem Aw.mono{x:LCode}{Q':Post}(h:Aw P m x Q env H n)(hq:∀o env H n,Q o env H n->Q' o env H n):Aw P m x Q' env H n:=λc hc w0 Φ β a w hm hR=>wp_mono (h c hc w0 Φ β a w hm hR) λ_ _ _ ⟨o,env',H',n',Φ',β',h1,h2,h3,h4,h5,h6⟩=>⟨o,env',H',n',Φ',β',h1,hq _ _ _ _ h2,h3,h4,h5,h6⟩
theorem Aw.ent{x:LCode}{env2:List AV}{H2:Heap}{n2:Nat}(hs:Ent m env2 H2 n2 env H n)(h:Aw P m x Q env2 H2 n2):Aw P m x Q env H n:=by intro c hc w0 Φ β a w hm hR;obtain⟨Φ2,β2,k1,k2,k3,k4⟩:=hR.ent hm hs;exact wp_mono (h c hc w0 Φ2 β2 a w k2 k4) λe a2 w2 h3=>h3.of_more k1 k3
end
inductive LRes where
 |tmp (t:Nat)
 |cell (t:Nat) (ag:Bool) (m:Nat)
def bDi(P:Program):ResultVar->Option LRes
 | .tmp t=>some (.tmp t)
 | .cell a t=>match aWd P t,P.info? t with
  |some ag,some inf=>some (.cell a ag inf.size)
  |_,_=>none
def aBx(P:Program):List ResultVar->Option (List LRes)
 |[]=>some []
 |r::rs=>match bDi P r,aBx P rs with|some x,some xs=>some (x::xs)|_,_=>none
structure LFun where
 ntmps:Nat
 res:List LRes
 body:LCode
def kP(P:Program)(f:FuncId):Option LFun:=
 match P.funcs[f]? with
 |some fn=>match fn.body with
  |some c=>match eN P c,aBx P fn.results.toList with
   |some lc,some rs=>some ⟨fn.ntmps,rs,lc⟩
   |_,_=>none
  |none=>none
 |none=>none
def zS(env:List AV)(H:Heap):LRes->Option AV
 | .tmp t=>some (env.getD t .unk)
 | .cell t ag m=>match env.getD t .unk with
  | .ptr r π o=>match H.get r π with
   |some u=>if o+m<=u.cs.length/\(ag=false->m=1)then some (bY ag (refer r π 0 u.cs) o m)else none
   |none=>none
  |_=>none
def fJ(env:List AV)(H:Heap):List LRes->Option (List AV)
 |[]=>some []
 |r::rs=>match zS env H r,fJ env H rs with|some x,some xs=>some (x::xs)|_,_=>none
def iD(env:List AV)(H:Heap)(rs:List LRes):Option AV:=
 match fJ env H rs with
 |some [v]=>some v
 |some vs=>some (.tup vs)
 |none=>none
section
variable {P : Program} {w0 : World} {Φ : Fz} {n : Nat} {β : Spots} {env : List AV} {H : Heap} {a : Act} {w : World}
theorem aLh(h:Rel w0 Φ n β env H a w):∀(rs:List ResultVar) (ls:List LRes) (vs:List AV),aBx P rs=some ls->fJ env H ls=some vs->
 ∃us,(rs.mapM λ| .tmp t=>pure (a.tmps.getD t undef)| .cell x t=>do loadVar t (<-asAddr (a.tmps.getD x undef)):Sem (List Value)).run P w= .ok us w/\RVt Φ n β vs us
 |[],ls,vs,hl,hv=>by simp only[aBx,w7.injEq]at hl;subst hl;simp only[fJ,w7.injEq]at hv;subst hv;exact⟨[],by simp,by simp[RVt]⟩
 |r::rs,ls,vs,hl,hv=>by simp only[aBx]at hl;split at hl;{rename_i l ls' h1 h2;cases hl;simp only[fJ]at hv;split at hv;{rename_i x xs e1 e2;cases hv;obtain⟨us,g1,g2⟩:=aLh h rs ls' xs h2 e2;have key:∃u,((match r with| .tmp t=>pure (a.tmps.getD t undef)| .cell x t=>do loadVar t (<-asAddr (a.tmps.getD x undef))):Sem Value).run P w= .ok u w/\RV Φ n β x u:=(by(cases r with|tmp t=>simp only[bDi,w7.injEq]at h1;subst h1;simp only[zS,w7.injEq]at e1;subst e1;exact⟨_,rfl,h.env.rel t⟩|cell s t=>simp only[bDi]at h1;split at h1;{rename_i ag inf k1 k2;cases h1;simp only[zS]at e1;split at e1;{rename_i q π p hp;split at e1;{rename_i t' hr;split at e1;{rename_i hb;cases e1;have h0:=h.env.rel s;rw[hp]at h0;simp only[RV]at h0;obtain⟨v,hv1,hv2⟩:=aHw (cs:=refer q π 0 t'.cs) (q:=⟨(β q π).b,(β q π).st,none⟩) (o:=p) k1 k2 rfl (by rw[aY];exact hb.1) hb.2 (λj hj=>by obtain⟨v,e1,e2,e3,_⟩:=aQq h.heap hr j (by rw[aY]at hj;exact hj);exact⟨v,by rw[gO];exact e1,e2,e3⟩);have hv1:=hv1 w (Below.refl _ _);rw[gO]at hv1;refine⟨v,?_,hv2⟩;simpa[h0.2.2,asAddr,Instr.loadAt,Instr.sureAddr]using hv1};{cases e1}};{cases e1}};{cases e1}};{cases h1}));obtain⟨u,k1,k2⟩:=key;refine⟨u::us,?_,by simp only[RVt];exact⟨u,us,rfl,k2,g2⟩⟩;simp only[List.mapM_cons,Sem.run_bind,k1,Result.andThen_ok,g1,Sem.run_pure]};{cases hv}};{cases hl}
theorem aZd{fn:Func}{ls:List LRes}{r:AV}(h:Rel w0 Φ n β env H a w)(hl:aBx P fn.results.toList=some ls)(hr:iD env H ls=some r):
 ∃v,(results fn a.tmps).run P w= .ok v w/\RV Φ n β r v:=by
 unfold iD at hr
 have harr:(results fn a.tmps).run P w=(((fn.results.toList.mapM λ| .tmp t=>pure (a.tmps.getD t undef)| .cell x t=>do loadVar t (<-asAddr (a.tmps.getD x undef))):Sem (List Value)).run P w).andThen
  λus w'=> .ok (if h:us.length=1 then us[0]else .tuple us.toArray) w':=by
  unfold results;obtain⟨l,hl⟩:∃l,fn.results=⟨l⟩:=⟨fn.results.toList,rfl⟩;rw[hl];simp only[List.mapM_toArray,Sem.run_bind,Sem.run_map,Sem.run_pure];generalize Sem.run P _ w=q;cases q<;>simp
 rw[harr];split at hr;{rename_i v hv;cases hr;obtain⟨us,g1,g2⟩:=aLh h _ _ _ hl hv;simp only[RVt]at g2;obtain⟨u,us',rfl,g3,rfl⟩:=g2;exact⟨u,by rw[g1];simp,g3⟩}
 · rename_i vs hne hv
   cases hr;obtain⟨us,g1,g2⟩:=aLh h _ _ _ hl hv;have hlen:=g2.length;have:¬us.length=1:=λe=>by rw[e]at hlen;(cases vs with|nil=>simp at hlen|cons v vs=>(cases vs with|nil=>exact hne v rfl|cons _ _=>simp at hlen))
   exact⟨.tuple us.toArray,by rw[g1];simp[this],by simp only[RV];exact⟨_,rfl,g2⟩⟩
 {cases hr}
def aTk(m:Nat)(r:AV)(H2:Heap)(n2:Nat)(ls:List LRes):Post
 | .exit _=>λ_ _ _=>False
 |_=>λenv H n=>∃r',iD env H ls=some r'/\Ent m [r] H2 n2 [r'] H n
theorem Inl.of_aw {f:FuncId} {lf:LFun} {args:List AV} {r:AV} {H2:Heap} {n2:Nat} (hl:kP P f=some lf)
 (h:Aw P n lf.body (aTk n r H2 n2 lf.res) (args++j0 (lf.ntmps-args.length) .und) H n):Inl P f args H n r H2 n2:=by
 intro Φ w β vs hK hH hv;unfold kP at hl;split at hl
 · rename_i fn hfn
   split at hl
   · rename_i c hc
     split at hl
     · rename_i lc rs h1 h2
       cases hl;have hlen:=hv.length;refine calls_of_wp hfn hc ?_
       have hR:Rel w Φ n β (args++j0 (fn.ntmps-args.length) .und) H {tmps:=vs.toArray++Array.replicate (fn.ntmps-vs.toArray.size) undef,defers:=[]} w:=by
        refine⟨⟨λt=>?_,by simp[hlen]⟩,hH,hK,Below.refl _ _,rfl⟩;have e:(vs.toArray++Array.replicate (fn.ntmps-vs.toArray.size) undef).getD t undef=if t<vs.length then vs.getD t undef else undef:=by simp only[Array.getD_eq_getD_getElem?];by_cases ht:t<vs.length;{rw[if_pos ht,Array.getElem?_append_left (by simpa using ht)];simp[x8]};{rw[if_neg ht,Array.getElem?_append_right (by simpa using ht)];simp only[Array.getElem?_replicate];split<;>rfl}
        rw[e];by_cases ht:t<args.length;{have:=hv.get t ht;rw[if_pos (by omega)];simpa[x8,List.getElem?_append_left ht]using this}
        · rw[if_neg (by omega)]
          by_cases h3:t<args.length+(fn.ntmps-args.length)
          · have:(args++j0 (fn.ntmps-args.length) AV.und).getD t .unk= .und:=by
             simp only[x8];rw[d9 (by omega),List.getElem?_replicate,if_pos (by omega)];rfl
            rw[this];simp[RV]
          · have:(args++j0 (fn.ntmps-args.length) AV.und).getD t .unk= .unk:=by
             simp only[x8];rw[d9 (by omega),List.getElem?_replicate,if_neg (by omega)];rfl
            rw[this];simp[RV]
       refine wp_mono (h c h1 w Φ β _ w (k9 _) hR) λe a' w' hq=>?_;obtain⟨o,env',H',n',Φ',β',q1,q2,q3,q4,q5,q6⟩:=hq
       have fin:(∃r',iD env' H' rs=some r'/\Ent n [r] H2 n2 [r'] H' n')->a'.defers=[]/\∃v,(results fn a'.tmps).run P w'= .ok v w'/\
        ∃v1 Φ1 β1,Ending.returned v= .returned v1/\n<=n2/\(∀i,i<n->β1 i=β i)/\Φ.le Φ1/\Keep Φ1 w'/\RV Φ1 n2 β1 r v1/\RH Φ1 n2 β1 H2 w'/\Below 0 w w':=by
        rintro⟨r',k1,k2⟩
        obtain⟨v,l1,l2⟩:=aZd q6 h2 k1;obtain⟨Φ2,β2,p1,p2,p3,p4,p5,p6⟩:=k2 Φ' β' [v] w' q3 q6.keep q6.heap (by simp only[RVt];exact⟨v,[],rfl,l2,rfl⟩);simp only[RVt]at p6;obtain⟨v',vs',e,p6,_⟩:=p6;cases e;exact⟨q6.defers,v,l1,v,Φ2,β2,rfl,p1,λi hi=>by rw[p2 i hi,q4 i hi],q5.trans p3,p4,p6,p5,q6.since⟩
       cases e<;>simp only[aMm,w7.injEq,reduceCtorEq]at q1<;>subst q1
       case normal=>exact fin q2
       case exit i=>exact q2.elim
       case ret=>exact fin q2
     {cases hl}
   {cases hl}
 {cases hl}
theorem Fn.of_aw {f:FuncId} {lf:LFun} {args:List AV} {r:AV} (hl:kP P f=some lf)
 (h:Aw P 0 lf.body (aTk 0 (bM 0 r).1 (bM 0 r).2.1 (bM 0 r).2.2 lf.res) (args++j0 (lf.ntmps-args.length) .und) [] 0):Fn P f args r:=Inl.of_aw hl h
end
section
variable {Φ Φ' : Fz} {n m n2 : Nat} {β : Spots} {env : List AV} {H : Heap} {w : World}
theorem Ent.clo{x y:AV}(h:Clo H x y):Ent 0 [y] [] n2 [x] H n:=by intro Φ β vs w hm hK hH hv;simp only[RVt]at hv;obtain⟨v,vs',rfl,h1,rfl⟩:=hv;refine⟨Φ.all w true,λ_ _=>⟨false,0,0,0⟩,m9 _,λi hi=>absurd hi (Nat.not_lt_zero i),Fz.le_all,hK.all,RH.empty,?_⟩;simp only[RVt];exact⟨v,[],rfl,h.sound hH h1,rfl⟩
inductive Clov (H : Heap) : AV → AV → Prop
 |one (x y):Clo H x y->Clov H x y
 |tup (xs ys):Cloz H xs ys->Clov H (.tup xs) (.tup ys)
theorem Ent.clov{x y:AV}(h:Clov H x y):Ent 0 [y] [] n2 [x] H n:=by
 (cases h with|one _ _ h=>exact Ent.clo h|tup xs ys h=>intro Φ β vs w hm hK hH hv;simp only[RVt]at hv;obtain⟨v,vs',rfl,h1,rfl⟩:=hv;refine⟨Φ.all w true,λ_ _=>⟨false,0,0,0⟩,m9 _,λi hi=>absurd hi (Nat.not_lt_zero i),Fz.le_all,hK.all,RH.empty,?_⟩;simp only[RVt];refine⟨v,[],rfl,?_,rfl⟩;simp only[RV]at h1 ⊢;obtain⟨arr,e,h1⟩:=h1;exact⟨arr,e,h.sound hH h1⟩)
end
mutual
def Ren(ρ:Nat->Option Nat)(n:Nat):AV->AV->Prop
 | .unk,_=>True
 | .und,y=>y= .und
 | .nil,y=>y= .nil
 | .emp,y=>y= .nil\/y= .emp
 | .bool b,y=>y= .bool b
 | .int k z,y=>y= .int k z
 | .ptr r π o,y=>r<n/\∃j,ρ r=some j/\y= .ptr j π o
 | .sref r π o m sz,y=>r<n/\((∃j,ρ r=some j/\y= .sref j π o m sz)\/(ρ r=none/\m=0/\(y= .nil\/y= .emp)))
 | .bor m cs,y=>(∃us,y= .bor m us/\Rens ρ n cs us)\/((y= .nil\/y= .emp)/\m=0/\cs=[])
 | .bptr cs o,y=>∃us,y= .bptr us o/\Rens ρ n cs us
 | .own e sz m cs,y=>∃us,y= .own e sz m us/\Rens ρ n cs us
 | .agg vs,y=>∃us,y= .agg us/\Rens ρ n vs us
 | .tup vs,y=>∃us,y= .tup us/\Rens ρ n vs us
def Rens(ρ:Nat->Option Nat)(n:Nat):List AV->List AV->Prop
 |[],ys=>ys=[]
 |x::xs,ys=>∃y us,ys=y::us/\Ren ρ n x y/\Rens ρ n xs us
end
def fD(ρ:Nat->Option Nat)(β:Spots):Spots:=λi π=>match ρ i with
 |some j=>β j π
 |none=>⟨false,0,0,0⟩
section
variable {Φ : Fz} {n n2 : Nat} {β : Spots} {ρ : Nat → Option Nat}
mutual
theorem RV.ren:∀{x y:AV} {v:Value},Ren ρ n2 x y->RV Φ n β y v->RV Φ n2 (fD ρ β) x v
 | .unk,_,_,_,_=>by simp[RV]
 | .und,_,_,h,k=>by simp only[Ren]at h;subst h;simpa only[RV]using k
 | .nil,_,_,h,k=>by simp only[Ren]at h;subst h;simpa only[RV]using k
 | .emp,_,_,h,k=>by simp only[Ren]at h;rcases h with rfl|rfl;{simp only[RV]at k ⊢;exact⟨none,k⟩};{simpa only[RV]using k}
 | .bool _,_,_,h,k=>by simp only[Ren]at h;subst h;simpa only[RV]using k
 | .int _ _,_,_,h,k=>by simp only[Ren]at h;subst h;simpa only[RV]using k
 | .own _ _ _ _,_,_,h,k=>by simp only[Ren]at h;obtain⟨us,rfl,_⟩:=h;simp only[RV]at k
 | .ptr r π o,_,_,h,k=>by simp only[Ren]at h;obtain⟨h1,j,h2,rfl⟩:=h;simp only[RV,fD,h2]at k ⊢;exact⟨h1,k.2⟩
 | .sref r π o m sz,_,_,h,k=>by simp only[Ren]at h;rcases h with⟨h1,⟨j,h2,rfl⟩|⟨h2,rfl,rfl|rfl⟩⟩;{simp only[RV,fD,h2]at k ⊢;exact⟨h1,k.2⟩};{simp only[RV,fD,h2]at k ⊢;exact⟨h1,none,0,k,k9 _,m9 _,.inl ⟨trivial,rfl,.inr trivial⟩⟩};{simp only[RV,fD,h2]at k ⊢;obtain⟨s,k⟩:=k;exact⟨h1,s,0,k,k9 _,m9 _,.inl ⟨trivial,rfl,.inr trivial⟩⟩}
 | .bor m cs,_,_,h,k=>by simp only[Ren]at h;rcases h with⟨us,rfl,h⟩|⟨rfl|rfl,rfl,rfl⟩;{simp only[RV]at k ⊢;obtain⟨s,cap,vs,k1,k2,k3,k4,k5⟩:=k;exact⟨s,cap,vs,k1,k2,k3,k4,RVs.ren h k5⟩};{simp only[RV]at k ⊢;exact⟨none,0,[],k,k9 _,m9 _,.inl rfl,by simp[RVs]⟩};{simp only[RV]at k ⊢;obtain⟨s,k⟩:=k;exact⟨s,0,[],k,k9 _,m9 _,.inl rfl,by simp[RVs]⟩}
 | .bptr cs o,_,_,h,k=>by simp only[Ren]at h;obtain⟨us,rfl,h⟩:=h;simp only[RV]at k ⊢;obtain⟨s,p,vs,k1,k2,k3,k4⟩:=k;exact⟨s,p,vs,k1,k2,RVs.ren h k3,k4⟩
 | .agg vs,_,_,h,k=>by simp only[Ren]at h;obtain⟨us,rfl,h⟩:=h;simp only[RV]at k ⊢;obtain⟨arr,k1,k2⟩:=k;exact⟨arr,k1,RVs.ren h k2⟩
 | .tup vs,_,_,h,k=>by simp only[Ren]at h;obtain⟨us,rfl,h⟩:=h;simp only[RV]at k ⊢;obtain⟨arr,k1,k2⟩:=k;exact⟨arr,k1,RVt.ren h k2⟩
theorem RVs.ren:∀{xs ys:List AV} {vs:List Value},Rens ρ n2 xs ys->RVs Φ n β ys vs->RVs Φ n2 (fD ρ β) xs vs
 |[],_,_,h,k=>by simp only[Rens]at h;subst h;simpa only[RVs]using k
 |_::_,_,_,h,k=>by simp only[Rens]at h;obtain⟨y,us,rfl,h1,h2⟩:=h;simp only[RVs]at k ⊢;obtain⟨v,vs',e,o,k1,k2⟩:=k;exact⟨v,vs',e,o,RV.ren h1 k1,RVs.ren h2 k2⟩
theorem RVt.ren:∀{xs ys:List AV} {vs:List Value},Rens ρ n2 xs ys->RVt Φ n β ys vs->RVt Φ n2 (fD ρ β) xs vs
 |[],_,_,h,k=>by simp only[Rens]at h;subst h;simpa only[RVt]using k
 |_::_,_,_,h,k=>by simp only[Rens]at h;obtain⟨y,us,rfl,h1,h2⟩:=h;simp only[RVt]at k ⊢;obtain⟨v,vs',e,k1,k2⟩:=k;exact⟨v,vs',e,RV.ren h1 k1,RVt.ren h2 k2⟩
end
theorem Rens.length:∀{xs ys:List AV},Rens ρ n xs ys->ys.length=xs.length
 |[],_,h=>by simp only[Rens]at h;simp[h]
 |_::_,_,h=>by simp only[Rens]at h;obtain⟨y,us,rfl,_,h2⟩:=h;simp[Rens.length h2]
theorem Rens.get:∀{xs ys:List AV},Rens ρ n xs ys->∀t,Ren ρ n (xs.getD t .unk) (ys.getD t .unk)
 |[],_,h,t=>by simp[Ren]
 |_::_,_,h,t=>by simp only[Rens]at h;obtain⟨y,us,rfl,h1,h2⟩:=h;(cases t with|zero=>simpa using h1|succ t=>simpa using h2.get t)
structure HSub (ρ : Nat → Option Nat) (n2 : Nat) (H2 H : Heap) : Prop where
 root:∀r t2,H2.get1 r=some t2->r<n2/\((ρ r=none/\t2.cs=[])\/∃j t,ρ r=some j/\H.get1 j=some t/\t.e=t2.e/\Rens ρ n2 t2.cs t.cs)
 inj:∀r r' j,(H2.get1 r).isSome=true->(H2.get1 r').isSome=true->ρ r=some j->ρ r'=some j->r=r'
theorem HSub.node{H2 H:Heap}(hs:HSub ρ n2 H2 H){r:Nat}:∀{π:List Nat} {t2:Root},H2.get r π=some t2->r<n2/\((ρ r=none/\π=[]/\t2.cs=[])\/∃j t,ρ r=some j/\H.get j π=some t/\t.e=t2.e/\Rens ρ n2 t2.cs t.cs)
 |[],t2,h=>by obtain⟨h1,h2⟩:=hs.root r t2 h;exact⟨h1,h2.imp (λ⟨a,b⟩=>⟨a,rfl,b⟩) id⟩
 |i::π,t2,h=>by simp only[Heap.get]at h;split at h;{rename_i tp htp;obtain⟨h1,h2⟩:=hs.node htp;cases hc:tp.cs.getD i .unk<;>rw[hc]at h<;>simp only[AV.node,w7.injEq,reduceCtorEq]at h;rename_i e sz m ds;subst h;rcases h2 with⟨_,_,h3⟩|⟨j,t,h3,h4,h5,h6⟩;{rw[h3]at hc;simp at hc};{have h7:=h6.get i;rw[hc]at h7;simp only[Ren]at h7;obtain⟨us,h8,h9⟩:=h7;exact⟨h1,.inr ⟨j,⟨e,us⟩,h3,by simp only[Heap.get,h4,h8,AV.node],rfl,h9⟩⟩}};{cases h}
theorem Rens.refer{r j:Nat}{π:List Nat}(hj:ρ r=some j)(hr:r<n2):∀{k:Nat} {xs ys:List AV},Rens ρ n2 xs ys->Rens ρ n2 (refer r π k xs) (Go.Proofs.YtcgggihjcelmhaaGreat.refer j π k ys)
 |_,[],_,h=>by simp only[Rens]at h;subst h;simp[Go.Proofs.YtcgggihjcelmhaaGreat.refer,Rens]
 |k,x::xs,_,h=>by
  simp only[Rens]at h;obtain⟨y,us,rfl,h1,h2⟩:=h;simp only[Go.Proofs.YtcgggihjcelmhaaGreat.refer,Rens];refine⟨_,_,rfl,?_,Rens.refer hj hr h2⟩;cases hx:x.node with
  |some t=>cases x<;>simp only[AV.node,reduceCtorEq]at hx;simp only[Ren]at h1;obtain⟨us',rfl,_⟩:=h1;simp only[AV.at,Ren];exact⟨hr,.inl ⟨j,hj,rfl⟩⟩
  |none=>
   rw[yD hx]
   have hy:x= .unk\/y.node=none:=by
    cases x<;>simp only[AV.node,reduceCtorEq]at hx<;>simp only[Ren]at h1
    case unk=>exact .inl rfl
    all_goals right
    case und=>subst h1;rfl
    case nil=>subst h1;rfl
    case emp=>rcases h1 with rfl|rfl<;>rfl
    case bool=>subst h1;rfl
    case int=>subst h1;rfl
    case ptr=>obtain⟨_,j,_,rfl⟩:=h1;rfl
    case sref=>rcases h1 with⟨_,⟨j,_,rfl⟩|⟨_,_,rfl|rfl⟩⟩<;>rfl
    case bor=>rcases h1 with⟨us,rfl,_⟩|⟨rfl|rfl,_⟩<;>rfl
    case bptr=>obtain⟨us,rfl,_⟩:=h1;rfl
    case agg=>obtain⟨us,rfl,_⟩:=h1;rfl
    case tup=>obtain⟨us,rfl,_⟩:=h1;rfl
   rcases hy with rfl|hy;{simp[Ren]};{rw[yD hy];exact h1}
theorem RH.ren{H H2:Heap}{w:World}(h:RH Φ n β H w)(hs:HSub ρ n2 H2 H):RH Φ n2 (fD ρ β) H2 w:=by refine⟨λr π t2 hr=>?_,λr π r' π' h1 h2 hx hx' he=>?_⟩;{obtain⟨hlt,hc⟩:=hs.node hr;refine⟨hlt,?_⟩;rcases hc with⟨h1,rfl,h2⟩|⟨j,t,h1,h2,h3,h4⟩;{exact .inl ⟨by simp[fD,h1],h2⟩};{have hb:fD ρ β r π=β j π:=(by simp[fD,h1]);have hl:=h4.length;unfold NodeIs;rw[hb];refine(h.root _ _ t h2).2.imp (λ⟨k1,k2⟩=>⟨k1,?_⟩) λ⟨k1,k2,cur,k3,k4,k5,k6⟩=>⟨k1,k2,cur,by rw[<-h3];exact k3,k4,by omega,?_⟩;{exact m6.1 (by rw[<-hl,k2];rfl)};{rw[<-hl];exact RVs.ren (h4.refer h1 hlt) k6}}};{obtain⟨t,ht⟩:=y3.1 h1;obtain⟨t',ht'⟩:=y3.1 h2;have root1:∀{r:Nat} {π:List Nat} {t:Root},H2.get r π=some t->(H2.get1 r).isSome=true:=(by intro r π t ht;(cases e:H2.get1 r with|some _=>rfl|none=>have:H2.get r []=none:=e;have:=eO this π;rw[List.append_nil,ht]at this;cases this));rcases(hs.node ht).2 with⟨a1,_,_⟩|⟨j,u,a1,a2,_⟩;{simp[fD,a1]at hx};{rcases(hs.node ht').2 with⟨b1,_,_⟩|⟨j',u',b1,b2,_⟩;{simp[fD,b1]at hx'};{simp only[fD,a1,b1]at hx hx' he;obtain⟨rfl,rfl⟩:=h.apart _ _ _ _ (by simp[a2]) (by simp[b2]) hx hx' he;exact⟨hs.inj r r' j (root1 ht) (root1 ht') a1 b1,rfl⟩}}}
theorem Ent.sub{m:Nat}{xs2 xs:List AV}{H2 H:Heap}(ρ:Nat->Option Nat)(h1:∀i,i<m->ρ i=some i)(h2:m<=n2)(h3:Rens ρ n2 xs2 xs)(h4:HSub ρ n2 H2 H):Ent m xs2 H2 n2 xs H n:=λΦ β _ _ _ hK hH hv=>⟨Φ,fD ρ β,h2,λi hi=>funext λπ=>by simp[fD,h1 i hi],Fz.le_refl Φ,hK,hH.ren h4,hv.ren h3⟩
end
mutual
def AV.okB(n:Nat):AV->Bool
 | .ptr r _ _=>decide (r<n)
 | .sref r _ _ _ _=>decide (r<n)
 | .bor _ cs=>aFg n cs
 | .bptr cs _=>aFg n cs
 | .own _ _ _ cs=>aFg n cs
 | .agg vs=>aFg n vs
 | .tup vs=>aFg n vs
 | .unk=>true
 | .und=>true
 | .nil=>true
 | .emp=>true
 | .bool _=>true
 | .int _ _=>true
def aFg(n:Nat):List AV->Bool
 |[]=>true
 |v::vs=>v.okB n&&aFg n vs
end
mutual
theorem Ren.ok{n:Nat}:∀{x:AV},x.okB n=true->Ren some n x x
 | .unk,_=>by simp[Ren]
 | .und,_=>by simp[Ren]
 | .nil,_=>by simp[Ren]
 | .emp,_=>by simp[Ren]
 | .bool _,_=>by simp[Ren]
 | .int _ _,_=>by simp[Ren]
 | .ptr r _ _,h=>by simp only[AV.okB,decide_eq_true_eq]at h;simp[Ren,h]
 | .sref r _ _ _ _,h=>by simp only[AV.okB,decide_eq_true_eq]at h;simp[Ren,h]
 | .bor m cs,h=>by simp only[Ren];exact .inl ⟨_,rfl,Rens.ok (by simpa[AV.okB]using h)⟩
 | .bptr cs o,h=>by simp only[Ren];exact⟨_,rfl,Rens.ok (by simpa[AV.okB]using h)⟩
 | .own e sz m cs,h=>by simp only[Ren];exact⟨_,rfl,Rens.ok (by simpa[AV.okB]using h)⟩
 | .agg vs,h=>by simp only[Ren];exact⟨_,rfl,Rens.ok (by simpa[AV.okB]using h)⟩
 | .tup vs,h=>by simp only[Ren];exact⟨_,rfl,Rens.ok (by simpa[AV.okB]using h)⟩
theorem Rens.ok{n:Nat}:∀{xs:List AV},aFg n xs=true->Rens some n xs xs
 |[],_=>by simp[Rens]
 |_::_,h=>by simp only[aFg,x5]at h;simp only[Rens];exact⟨_,_,rfl,Ren.ok h.1,Rens.ok h.2⟩
end
mutual
theorem Ren.noRef{ρ:Nat->Option Nat}{n:Nat}:∀{x:AV},x.noRef=true->Ren ρ n x x
 | .unk,h=>by simp[AV.noRef]at h
 | .und,_=>by simp[Ren]
 | .nil,_=>by simp[Ren]
 | .emp,_=>by simp[Ren]
 | .bool _,_=>by simp[Ren]
 | .int _ _,_=>by simp[Ren]
 | .ptr _ _ _,h=>by simp[AV.noRef]at h
 | .sref _ _ _ _ _,h=>by simp[AV.noRef]at h
 | .bptr _ _,h=>by simp[AV.noRef]at h
 | .bor m cs,h=>by simp only[Ren];exact .inl ⟨_,rfl,Rens.noRef (by simpa[AV.noRef]using h)⟩
 | .own e sz m cs,h=>by simp only[Ren];exact⟨_,rfl,Rens.noRef (by simpa[AV.noRef]using h)⟩
 | .agg vs,h=>by simp only[Ren];exact⟨_,rfl,Rens.noRef (by simpa[AV.noRef]using h)⟩
 | .tup vs,h=>by simp only[Ren];exact⟨_,rfl,Rens.noRef (by simpa[AV.noRef]using h)⟩
theorem Rens.noRef{ρ:Nat->Option Nat}{n:Nat}:∀{xs:List AV},aG xs=true->Rens ρ n xs xs
 |[],_=>by simp[Rens]
 |_::_,h=>by simp only[aG,x5]at h;simp only[Rens];exact⟨_,_,rfl,Ren.noRef h.1,Rens.noRef h.2⟩
end
def live(ls:List Nat)(i:Nat):Bool:=ls.any (λj=>j==i)
def forget(ls:List Nat):Nat->List AV->List AV
 |_,[]=>[]
 |i,v::vs=>(match live ls i with|true=>v|false=> .unk)::forget ls (i+1) vs
theorem Rens.forget{n:Nat}{ls:List Nat}:∀{i:Nat} {xs:List AV},aFg n (Go.Proofs.YtcgggihjcelmhaaGreat.forget ls i xs)=true->Rens some n (Go.Proofs.YtcgggihjcelmhaaGreat.forget ls i xs) xs
 |_,[],_=>by simp[Go.Proofs.YtcgggihjcelmhaaGreat.forget,Rens]
 |i,x::xs,h=>by simp only[Go.Proofs.YtcgggihjcelmhaaGreat.forget,aFg,x5]at h;simp only[Go.Proofs.YtcgggihjcelmhaaGreat.forget,Rens];refine⟨_,_,rfl,?_,Rens.forget h.2⟩;(cases hl:live ls i with|true=>rw[hl]at h;exact Ren.ok h.1|false=>simp[Ren])
abbrev Fresh:=Option (Nat×TypeId×List AV)
def mB(g:Option (Nat×Bool))(env:List AV):Option Bool:=match g with
 |none=>some true
 |some (t,want)=>match env.getD t .unk with
  | .bool b=>some (decide (b=want))
  | .und=>some false
  |_=>none
def gV(env:List AV):LOp->Option (Nat×List Nat)
 | .load _ _ a=>match a.val env with
  | .ptr r π _=>some (r,π)
  |_=>none
 |_=>none
def Eqq(A B:Heap):Option (Nat×List Nat)->Prop
 |some (r,π)=>A.get r π=B.get r π
 |none=>True
theorem Eqq.symm{A B:Heap}{q:Option (Nat×List Nat)}(h:Eqq A B q):Eqq B A q:=by
 (cases q with|none=>trivial|some q=>exact Eq.symm h)
theorem Eqq.trans{A B C:Heap}{q:Option (Nat×List Nat)}(h:Eqq A B q)(k:Eqq B C q):Eqq A C q:=by
 (cases q with|none=>trivial|some q=>exact Eq.trans h k)
theorem Eqq.refl{A:Heap}{q:Option (Nat×List Nat)}:Eqq A A q:=by
 (cases q with|none=>trivial|some q=>exact Eq.refl (A.get q.1 q.2))
def Eqn(A:Heap×Nat)(B:Heap):Option (Nat×List Nat)->Prop
 |some (r,π)=>r<A.2->A.1.get r π=B.get r π
 |none=>True
def same(H:Heap)(q:Option (Nat×List Nat)):List (Heap×Nat)->Prop
 |[]=>True
 |h::hs=>Eqn h H q/\same H q hs
def noted(H:Heap):Option (Nat×List Nat)->List (Nat×List Nat×Option Root)->List (Nat×List Nat×Option Root)
 |some (r,π),ls=>(r,π,H.get r π)::ls
 |none,ls=>ls
def kept(H:Heap):List (Nat×List Nat×Option Root)->Prop
 |[]=>True
 |(r,π,t)::ls=>H.get r π=t/\kept H ls
abbrev DK:=List AV->Heap->Nat->Fresh->Prop
def xdq(P:Program)(env:List AV)(H:Heap)(n:Nat)(hs:List (Heap×Nat))(K:AV->Prop)(op:LOp):Prop:=same H (gV env op) hs/\xop P env H n (λv _ _=>K v) op
def rC(m:Nat)(cs:List AV):AV:=match m with|0=> .emp|_=> .bor m cs
def xds(P:Program)(K:DK):List LOper->List (Heap×Nat)->List (Nat×List Nat×Option Root)->List AV->Heap->Nat->Fresh->Prop
 |[],_,_,env,H,n,fs=>K env H n fs
 |o::os,hs,ls,env,H,n,fs=>match mB o.g env with
  |some true=>match o.op with
   | .bsl _ _ m z ps=>match eC env (aR z m) ps with
    |some cs=>xds P K os hs ls (put env o.dst (rC m cs)) H n fs
    |none=>False
   | .fresh e z=>match fs,o.dst with
    |none,some d=>xds P K os hs ls (put env (some d) .unk) H n (some (d,e,z))
    |_,_=>False
   |op=>match op.quiet with
    |true=>xdq P env H n hs (λv=>xds P K os hs (noted H (gV env op) ls) (put env o.dst v) H n fs) op
    |false=>xop P env H n (λv H' n'=>n<=n'/\kept H' ls/\xds P K os ((H',n')::hs) ls (put env o.dst v) H' n' fs) op
  |some false=>xds P K os hs ls (put env o.dst .und) H n fs
  |none=>False
def Stp(P:Program)(env:List AV)(H:Heap)(n:Nat)(fs:Fresh)(o:LOper)(x:AV)(H':Heap)(n':Nat)(fs':Fresh):Prop:=
 match mB o.g env with
 |some true=>match o.op with
  | .bsl _ _ m z ps=>match eC env (aR z m) ps with
   |some cs=>x=(rC m cs)/\H'=H/\n'=n/\fs'=fs
   |none=>False
  | .fresh e z=>match fs,o.dst with
   |none,some d=>x= .unk/\H'=H/\n'=n/\fs'=some (d,e,z)
   |_,_=>False
  |op=>xop P env H n (λv a b=>x=v/\H'=a/\n'=b) op/\fs'=fs
 |some false=>x= .und/\H'=H/\n'=n/\fs'=fs
 |none=>False
section
variable {P : Program} {env env' : List AV} {H H' : Heap} {n n' : Nat}
theorem aKr{op:BinOp}{k:IntKind}{a b:Int}{K1 K2:AV->Prop}(hk:∀v,K1 v->K2 v)(h:uX op k a b K1):uX op k a b K2:=by
 cases op<;>simp only[uX]at h ⊢
 all_goals first
  |exact hk _ h
  |exact⟨h.1,hk _ h.2⟩
theorem bBd{op:BinOp}{k:IntKind}{a b:Int}{K:AV->Prop}(h:uX op k a b K):∃x,uX op k a b (λv=>x=v)/\K x:=by
 cases op<;>simp only[uX]at h ⊢
 case quo=>exact⟨_,⟨h.1,rfl⟩,h.2⟩
 case rem=>exact⟨_,⟨h.1,rfl⟩,h.2⟩
 all_goals exact⟨_,rfl,h⟩
theorem aMj{K:AV->Heap->Nat->Prop}{op:LOp}(h:xop P env H n K op):∃x H' n',xop P env H n (λv a b=>x=v/\H'=a/\n'=b) op/\K x H' n':=by
 cases op<;>simp only[xop]at h ⊢
 case bin op x y=>split at h;{obtain⟨h1,h2⟩:=h;obtain⟨v,h3,h4⟩:=bBd h2;exact⟨v,H,n,⟨h1,aKr (λw hw=>⟨hw,rfl,rfl⟩) h3⟩,h4⟩};{exact h.elim}
 case un op x=>simp only[xun]at h ⊢;split at h;{exact⟨_,_,_,⟨rfl,rfl,rfl⟩,h⟩};{exact⟨_,_,_,⟨rfl,rfl,rfl⟩,h⟩};{exact h.elim}
 case call f xs=>obtain⟨r,H',n',h1,h2⟩:=h;exact⟨r,H',n',⟨r,H',n',h1,rfl,rfl,rfl⟩,h2⟩
 case pick c a b=>split at h;{rename_i t ht;cases t;{exact⟨b.val env,H,n,by simp,by simpa using h⟩};{exact⟨a.val env,H,n,by simp,by simpa using h⟩}};{exact h.elim}
 all_goals
  repeat' (split at h)
  all_goals first
   |exact h.elim
   |exact⟨_,_,_,⟨rfl,rfl,rfl⟩,h⟩
   |exact⟨_,_,_,⟨h.1,rfl,rfl,rfl⟩,h.2⟩
   |exact⟨_,_,_,⟨h.1,h.2.1,rfl,rfl,rfl⟩,h.2.2⟩
theorem kD{K K':AV->Heap->Nat->Prop}{op:LOp}(hk:∀x a b,K x a b->K' x a b)(h:xop P env H n K op):xop P env H n K' op:=by
 cases op<;>simp only[xop]at h ⊢
 case bin op x y=>split at h;{exact⟨h.1,aKr (λw hw=>hk _ _ _ hw) h.2⟩};{exact h.elim}
 case un op x=>simp only[xun]at h ⊢;split at h;{exact hk _ _ _ h};{exact hk _ _ _ h};{exact h.elim}
 case call f xs=>obtain⟨r,H',n',h1,h2⟩:=h;exact⟨r,H',n',h1,hk _ _ _ h2⟩
 case pick c a b=>split at h;{rename_i t ht;cases t;{simpa using hk _ _ _ (by simpa using h)};{simpa using hk _ _ _ (by simpa using h)}};{exact h.elim}
 all_goals
  repeat' (split at h)
  all_goals first
   |exact h.elim
   |exact hk _ _ _ h
   |exact⟨h.1,hk _ _ _ h.2⟩
   |exact⟨h.1,h.2.1,hk _ _ _ h.2.2⟩
theorem bOj {K:AV->Prop} {op:LOp} (hq:op.quiet=true) (hs:match gV env op with|some (r,π)=>H'.get r π=H.get r π|none=>True)
 (h:xop P env H n (λv _ _=>K v) op):xop P env H' n' (λv _ _=>K v) op:=by
 cases op<;>simp only[LOp.quiet,o8]at hq<;>simp only[xop]at h ⊢<;>simp only[gV]at hs
 case load ag m a=>split at h;{rename_i r π o e;simp only[e]at hs;rw[hs];exact h};{exact h};{exact h.elim}
 all_goals exact h
theorem jF{x:Opd}(h:∀i∈x.tmps,env'.getD i .unk=env.getD i .unk):x.val env'=x.val env:=by
 (cases x with|t i=>exact h i (by simp[Opd.tmps])|c v=>rfl)
theorem aIy{ps:List (Nat×Nat×Opd)}:∀{cs:List AV},(∀i∈ps.flatMap (λp=>p.2.2.tmps),env'.getD i .unk=env.getD i .unk)->eC env' cs ps=eC env cs ps:=by
 induction ps with
 |nil=>intro cs _;rfl
 |cons p ps ih=>intro cs h;obtain⟨off,sz,x⟩:=p;simp only[List.flatMap_cons,p7]at h;simp only[eC];rw[jF λi hi=>h i (.inl hi)];split;{split;{exact ih λi hi=>h i (.inr hi)};{rfl}};{rfl}
theorem aPa{x:Option Opd}{d:Int}(h:∀i∈aWr x,env'.getD i .unk=env.getD i .unk):dY env' x d=dY env x d:=by
 (cases x with|none=>rfl|some x=>simp only[dY];rw[jF h])
theorem bNw{K:AV->Heap->Nat->Prop}{op:LOp}(h:∀i∈op.reads,env'.getD i .unk=env.getD i .unk):xop P env' H n K op=xop P env H n K op:=by
 cases op<;>simp only[LOp.reads,p7]at h<;>simp only[xop]
 case pick c a b=>rw[jF λi hi=>h i (.inl hi),jF λi hi=>h i (.inr (.inl hi)),jF λi hi=>h i (.inr (.inr hi))]
 case bld z ps=>rw[aIy h]
 case bsl e sz m z ps=>rw[aIy h]
 case slc sz x lo hi=>rw[jF (x:=x) λi hi=>h i (.inl hi),aPa (x:=lo) λi hi=>h i (.inr (.inl hi))];have:∀d,dY env' hi d=dY env hi d:=λd=>aPa λi hi=>h i (.inr (.inr hi));simp only[this]
 case call f xs=>have:xs.map (·.val env')=xs.map (·.val env):=List.map_congr_left λx hx=>jF λi hi=>h i (List.mem_flatMap.2 ⟨x,hx,hi⟩);rw[this]
 all_goals first
  |rw[jF h]
  |(rw[jF λi hi=>h i (.inl hi),jF λi hi=>h i (.inr hi)];done)
theorem bNc{op:LOp}(h:∀i∈op.reads,env'.getD i .unk=env.getD i .unk):gV env' op=gV env op:=by cases op<;>first|rfl|(simp only[LOp.reads]at h;simp only[gV];rw[jF h])
theorem aUr{g:Option (Nat×Bool)}(h:∀i∈(match g with|some (t,_)=>[t]|none=>[]),env'.getD i .unk=env.getD i .unk):mB g env'=mB g env:=by
 (cases g with|none=>rfl|some p=>obtain⟨t,want⟩:=p;simp only[mB];rw[h t (by simp)])
theorem bSm{d:Option Nat}{x:AV}{i:Nat}(h:d≠some i):(put env d x).getD i .unk=env.getD i .unk:=by
 cases d with
 |none=>rfl
 |some d=>
  simp only[put];rw[fV,if_neg]
  rintro⟨rfl,_⟩
  exact h rfl
theorem bUm{d d':Option Nat}{x y:AV}(h:∀i,d=some i->d'≠some i):put (put env d x) d' y=put (put env d' y) d x:=by
 (cases d with|none=>rfl|some d=>(cases d' with|none=>rfl|some d'=>simp only[put];exact List.set_comm _ _ (λe=>h d rfl (by rw[e]))))
theorem aYu{o:LOper}{d:Option Nat}{x:AV}(h:∀i,d=some i->i∉o.reads):∀i∈o.reads,(put env d x).getD i .unk=env.getD i .unk:=λi hi=>bSm λe=>h i e hi
theorem Eqq.lo{A B:Heap}{m:Nat}{q:Option (Nat×List Nat)}(h:Eqq A B q):Eqn (A,m) B q:=by
 (cases q with|none=>trivial|some q=>exact λ_=>h)
theorem Eqn.trans{A:Heap×Nat}{B C:Heap}{q:Option (Nat×List Nat)}(h:Eqn A B q)(k:Eqq B C q):Eqn A C q:=by
 (cases q with|none=>trivial|some q=>exact λe=>Eq.trans (h e) k)
theorem Eqn.at{A B:Heap}{m:Nat}{q:Option (Nat×List Nat)}(h:Eqn (A,m) B q)(hl:∀r π,q=some (r,π)->r<m):Eqq A B q:=by
 (cases q with|none=>trivial|some q=>exact h (hl q.1 q.2 rfl))
theorem aCs{q:Option (Nat×List Nat)}{H0:Heap×Nat}:∀{hs:List (Heap×Nat)},same H q hs->H0∈hs->Eqn H0 H q
 |[],_,h=>by cases h
 |h0::hs,h,hm=>by simp only[same]at h;rcases g8.1 hm with rfl|hm;{exact h.1};{exact aCs h.2 hm}
theorem xP{q:Option (Nat×List Nat)}:∀{hs:List (Heap×Nat)},(∀h0∈hs,Eqn h0 H q)->same H q hs
 |[],_=>trivial
 |h0::hs,h=>⟨h h0 (by simp),xP λk hk=>h k (by simp[hk])⟩
end
def lR:LOp->Bool
 | .fresh _ _=>true
 |_=>false
def eJ(env:List AV)(o:LOper):Bool:=(match mB o.g env with|some true=>true|_=>false)&&o.op.chain
def sn(env:List AV)(o:LOper):Option (Nat×List Nat):=match mB o.g env with
 |some true=>gV env o.op
 |_=>none
def hY(env:List AV)(o:LOper):Bool:=(match mB o.g env with|some true=>true|_=>false)&&lR o.op
theorem aMb{i j:LOper}(h:i.free j=true):∀d,i.dst=some d->d∉j.reads/\j.dst≠some d:=by intro d hd;simp only[LOper.free,hd,x5,u0,bne_iff_ne,ne_eq]at h;exact⟨by simpa using h.1,h.2⟩
section
variable {P : Program} {K : DK} {env env' : List AV} {H H' : Heap} {n n' : Nat} {fs fs' : Fresh}
theorem aKy{H:Heap}{q:Option (Nat×List Nat)}{H0:Heap}{ls:List (Nat×List Nat×Option Root)}(h:kept H (noted H0 q ls)):kept H ls/\Eqq H H0 q:=by
 (cases q with|none=>exact⟨h,trivial⟩|some q=>obtain⟨r,π⟩:=q;exact⟨h.2,h.1⟩)
def LsSub(ls' ls:List (Nat×List Nat×Option Root)):Prop:=∀H,kept H ls->kept H ls'
theorem LsSub.noted{q:Option (Nat×List Nat)}{ls' ls:List (Nat×List Nat×Option Root)}(h:LsSub ls' ls):LsSub (noted H q ls') (noted H q ls):=by intro H' hk;(cases q with|none=>exact h H' hk|some q=>obtain⟨r,π⟩:=q;exact⟨hk.1,h H' hk.2⟩)
theorem rK:∀{os:List LOper} {hs hs':List (Heap×Nat)} {ls ls':List (Nat×List Nat×Option Root)} {env:List AV} {H:Heap} {n:Nat} {fs:Fresh},(∀h∈hs',h∈hs)->LsSub ls' ls->xds P K os hs ls env H n fs->xds P K os hs' ls' env H n fs
 |[],_,_,_,_,_,_,_,_,_,_,h=>h
 |o::os,hs,hs',ls,ls',env,H,n,fs,h1,h2,h=>by
  have hsame:∀q,same H q hs->same H q hs':=λq hq=>xP λh0 hh=>aCs hq (h1 h0 hh);simp only[xds]at h ⊢;split at h
  · split at h
    {split at h;{exact rK h1 h2 h};{exact h.elim}};{split at h;{exact rK h1 h2 h};{exact h.elim}}
    · split at h
      {exact⟨hsame _ h.1,kD (λx a b hx=>rK h1 h2.noted hx) h.2⟩}
      · exact kD (λx a b hx=>⟨hx.1,h2 _ hx.2.1,rK (λh0 hh=>by
        rcases g8.1 hh with rfl|hh;{simp}
        · exact m8 _ (h1 _ hh)) h2 hx.2.2⟩) h
  {exact rK h1 h2 h};{exact h.elim}
theorem yK{op:LOp}(hq:op.quiet=true){x:AV}(h:xop P env H n (λv a b=>x=v/\H'=a/\n'=b) op):H'=H/\n'=n:=by
 cases op<;>simp only[LOp.quiet,o8]at hq<;>simp only[xop]at h
 case bin op x y=>split at h;{have:=h.2;cases op<;>simp only[uX]at this<;>first|exact⟨this.2.1,this.2.2⟩|exact⟨this.2.2.1,this.2.2.2⟩|exact this.elim};{exact h.elim}
 case un op x=>simp only[xun]at h;split at h;{exact h.2};{exact h.2};{exact h.elim}
 all_goals
  repeat' (split at h)
  all_goals first
   |exact h.elim
   |exact h.2
   |exact h.2.2
   |exact h.2.2.2
theorem bBf{op:LOp}(hq:op.quiet=false)(h1:∀(e:TypeId) (sz m:Nat) (z:List AV) (ps:List (Nat×Nat×Opd)),op=LOp.bsl e sz m z ps->False)(h2:∀(e:TypeId) (z:List AV),op=LOp.fresh e z->False):op.chain=true:=by
 cases op
 case bsl=>exact(h1 _ _ _ _ _ rfl).elim
 case fresh=>exact(h2 _ _ rfl).elim
 all_goals simp_all [LOp.chain,LOp.quiet]
theorem bLj{op:LOp}(hq:op.chain=false)(h1:∀(e:TypeId) (sz m:Nat) (z:List AV) (ps:List (Nat×Nat×Opd)),op=LOp.bsl e sz m z ps->False)(h2:∀(e:TypeId) (z:List AV),op=LOp.fresh e z->False):op.quiet=true:=by
 cases op
 case bsl=>exact(h1 _ _ _ _ _ rfl).elim
 case fresh=>exact(h2 _ _ rfl).elim
 all_goals simp_all [LOp.chain,LOp.quiet]
theorem aYs{op:LOp}(hq:op.quiet=true):op.chain=false:=by cases op<;>simp_all [LOp.chain,LOp.quiet]
theorem aPy{o:LOper}{os:List LOper}{hs:List (Heap×Nat)}{ls:List (Nat×List Nat×Option Root)}(h:xds P K (o::os) hs ls env H n fs):
 ∃x H' n' fs',Stp P env H n fs o x H' n' fs'/\(eJ env o=true->n<=n'/\kept H' ls/\xds P K os ((H',n')::hs) ls (put env o.dst x) H' n' fs')/\(eJ env o=false->H'=H/\n'=n/\same H (sn env o) hs/\xds P K os hs (noted H (sn env o) ls) (put env o.dst x) H n fs'):=by
 have st:∀hs:List (Heap×Nat),same H none hs:=λhs=>xP λ_ _=>trivial;simp only[xds]at h;split at h
 · rename_i hg
   split at h;{rename_i be bsz bm bz bps hop;split at h;{rename_i cs hcs;refine⟨rC bm cs,H,n,fs,?_,λhm=>?_,λ_=>⟨rfl,rfl,?_,?_⟩⟩;{simp only[Stp,hg,hop,hcs];exact⟨trivial,trivial,trivial,trivial⟩};{simp[eJ,hg,hop,LOp.chain]at hm};{simp only[sn,hg,hop,gV];exact st hs};{simp only[sn,hg,hop,gV,noted];exact h}};{exact h.elim}};{rename_i fe fz hop;split at h;{rename_i d hd;refine⟨.unk,H,n,some (d,fe,fz),?_,λhm=>?_,λ_=>⟨rfl,rfl,?_,?_⟩⟩;{simp only[Stp,hg,hop,hd];exact⟨trivial,trivial,trivial,trivial⟩};{simp[eJ,hg,hop,LOp.chain]at hm};{simp only[sn,hg,hop,gV];exact st hs};{simp only[sn,hg,hop,gV,noted,hd];exact h}};{exact h.elim}}
   · rename_i h1 h2
     have hS:∀x a b,xop P env H n (λv c d=>x=v/\a=c/\b=d) o.op->Stp P env H n fs o x a b fs:=λx a b hx=>by simp only[Stp,hg];exact⟨hx,trivial⟩
     split at h;{rename_i hq;obtain⟨hs1,hx⟩:=h;obtain⟨x,H',n',h3,h4⟩:=aMj hx;obtain⟨rfl,rfl⟩:=yK hq h3;refine⟨x,H',n',fs,hS _ _ _ h3,λhm=>?_,λ_=>⟨rfl,rfl,?_,?_⟩⟩;{have:o.op.chain=false:=aYs hq;simp[eJ,this]at hm};{simp only[sn,hg];exact hs1};{simp only[sn,hg];exact h4}};{rename_i hq;obtain⟨x,H',n',h3,h4,h5,h6⟩:=aMj h;refine⟨x,H',n',fs,hS _ _ _ h3,λ_=>⟨h4,h5,h6⟩,λhm=>?_⟩;have:o.op.chain=true:=bBf (by simpa using hq) h1 h2;simp[eJ,hg,this]at hm}
 {rename_i hg;refine⟨.und,H,n,fs,?_,λhm=>?_,λ_=>⟨rfl,rfl,?_,?_⟩⟩;{simp only[Stp,hg];exact⟨trivial,trivial,trivial,trivial⟩};{simp[eJ,hg]at hm};{simp only[sn,hg];exact st hs};{simp only[sn,hg,noted];exact h}};{exact h.elim}
theorem aQe {o:LOper} {os:List LOper} {hs:List (Heap×Nat)} {ls:List (Nat×List Nat×Option Root)} {x:AV} (hS:Stp P env H n fs o x H' n' fs') (h1:eJ env o=true->n<=n'/\kept H' ls/\xds P K os ((H',n')::hs) ls (put env o.dst x) H' n' fs')
 (h2:eJ env o=false->same H (sn env o) hs/\xds P K os hs (noted H (sn env o) ls) (put env o.dst x) H n fs'):xds P K (o::os) hs ls env H n fs:=by
 simp only[xds];simp only[Stp]at hS;split at hS;{rename_i hg;split at hS;{rename_i hop;split at hS;{rename_i cs hcs;obtain⟨rfl,rfl,rfl,rfl⟩:=hS;have:=(h2 (by simp[eJ,hop,LOp.chain])).2;simpa only[sn,hg,hop,gV,noted,hcs]using this};{exact hS.elim}};{rename_i hop;split at hS;{rename_i d hd;obtain⟨rfl,rfl,rfl,rfl⟩:=hS;have:=(h2 (by simp[eJ,hop,LOp.chain])).2;simpa only[sn,hg,hop,gV,noted,hd]using this};{exact hS.elim}};{rename_i a1 a2;obtain⟨hx,rfl⟩:=hS;split;{rename_i hq;have hc:o.op.chain=false:=aYs hq;obtain⟨rfl,rfl⟩:=yK hq hx;obtain⟨b1,b2⟩:=h2 (by simp[eJ,hc]);simp only[sn,hg]at b1 b2;exact⟨b1,kD (λv a b ⟨e1,_,_⟩=>by subst e1;exact b2) hx⟩};{rename_i hq;have hc:o.op.chain=true:=bBf (by simpa using hq) a1 a2;obtain⟨b1,b2,b3⟩:=h1 (by simp[eJ,hg,hc]);exact kD (λv a b ⟨e1,e2,e3⟩=>by subst e1;subst e2;subst e3;exact⟨b1,b2,b3⟩) hx}}};{rename_i hg;obtain⟨rfl,rfl,rfl,rfl⟩:=hS;have:=(h2 (by simp[eJ,hg])).2;simpa only[sn,hg,noted]using this};{exact hS.elim}
theorem Stp.congr{o:LOper}{x:AV}(h:∀i∈o.reads,env'.getD i .unk=env.getD i .unk)(hS:Stp P env H n fs o x H' n' fs'):Stp P env' H n fs o x H' n' fs':=by have hg:mB o.g env'=mB o.g env:=aUr λi hi=>h i (by simp only[LOper.reads,p7];exact .inr hi);have ho:∀i∈o.op.reads,env'.getD i .unk=env.getD i .unk:=λi hi=>h i (by simp only[LOper.reads,p7];exact .inl hi);simp only[Stp]at hS ⊢;rw[hg];split at hS;{split at hS;{rename_i hop;rw[hop]at ho;simp only[LOp.reads]at ho;rw[aIy ho];exact hS};{exact hS};{rename_i a1 a2;exact⟨by rw[bNw ho];exact hS.1,hS.2⟩}};{exact hS};{exact hS}
theorem aFh{o:LOper}(h:∀i∈o.reads,env'.getD i .unk=env.getD i .unk):eJ env' o=eJ env o/\sn env' o=sn env o/\hY env' o=hY env o:=by have hg:mB o.g env'=mB o.g env:=aUr λi hi=>h i (by simp only[LOper.reads,p7];exact .inr hi);have ho:gV env' o.op=gV env o.op:=bNc λi hi=>h i (by simp only[LOper.reads,p7];exact .inl hi);simp only[eJ,sn,hY,hg,ho,and_self]
theorem Stp.heap{o:LOper}{x:AV}{H2:Heap}{n2:Nat}(hm:eJ env o=false)(hs:Eqq H2 H (sn env o))(hS:Stp P env H n fs o x H' n' fs'):Stp P env H2 n2 fs o x H2 n2 fs':=by simp only[Stp]at hS ⊢;split at hS;{rename_i hg;split at hS;{split at hS;{exact⟨hS.1,trivial,trivial,hS.2.2.2⟩};{exact hS.elim}};{split at hS;{exact⟨hS.1,trivial,trivial,hS.2.2.2⟩};{exact hS.elim}};{rename_i a1 a2;have hq:o.op.quiet=true:=(by simp only[eJ,hg,Bool.true_and]at hm;exact bLj hm a1 a2);simp only[sn,hg]at hs;refine⟨?_,hS.2⟩;obtain⟨rfl,rfl⟩:=yK hq hS.1;have h3:=bOj (H':=H2) (n':=n2) (K:=λv=>x=v) hq hs (kD (λv a b h=>h.1) hS.1);obtain⟨y,Hy,ny,h4,h5⟩:=aMj h3;obtain⟨rfl,rfl⟩:=yK hq h4;subst h5;exact h4}};{exact⟨hS.1,trivial,trivial,hS.2.2.2⟩};{exact hS.elim}
theorem Stp.fresh{o:LOper}{x:AV}(hf:hY env o=false)(hS:Stp P env H n fs o x H' n' fs'):fs'=fs/\∀fs2,Stp P env H n fs2 o x H' n' fs2:=by simp only[Stp]at hS ⊢;split at hS;{rename_i hg;split at hS;{split at hS;{exact⟨hS.2.2.2,λ_=>⟨hS.1,hS.2.1,hS.2.2.1,trivial⟩⟩};{exact hS.elim}};{rename_i hop;simp[hY,hg,hop,lR]at hf};{exact⟨hS.2,λ_=>⟨hS.1,trivial⟩⟩}};{exact⟨hS.2.2.2,λ_=>⟨hS.1,hS.2.1,hS.2.2.1,trivial⟩⟩};{exact hS.elim}
theorem Stp.freshed{o:LOper}{x:AV}(hf:hY env o=true)(hS:Stp P env H n fs o x H' n' fs'):fs=none/\fs'≠none:=by simp only[Stp]at hS;split at hS;{rename_i hg;split at hS;{rename_i hop;simp[hY,hg,hop,lR]at hf};{split at hS;{exact⟨rfl,by rw[hS.2.2.2];simp⟩};{exact hS.elim}};{rename_i a1 a2;simp only[hY,hg,Bool.true_and]at hf;cases ho:o.op<;>simp_all [lR]}};{rename_i hg;simp[hY,hg]at hf};{exact hS.elim}
theorem yI{o:LOper}(h:o.op.chain=false):eJ env o=false:=by simp[eJ,h]
theorem aPn{o:LOper}(h:eJ env o=true):o.op.chain=true:=by simp only[eJ,x5]at h;exact h.2
theorem bGg{o:LOper}(h:eJ env o=true):hY env o=false:=by have hc:=aPn h;have:lR o.op=false:=(by cases ho:o.op<;>simp_all [lR,LOp.chain]);simp[hY,this]
theorem bTn{j:LOper}{post:List LOper}:∀(pre:List LOper) (hs:List (Heap×Nat)) (ls:List (Nat×List Nat×Option Root)) (env:List AV) (H:Heap) (n:Nat) (fs:Fresh),
 (∀i∈pre,i.free j=true/\j.free i=true/\(i.op.chain&&j.op.chain)=false)->(H,n)∈hs->(∀r π,sn env j=some (r,π)->r<n)->xds P K (pre++j::post) hs ls env H n fs->
 ∃x H' n' fs',Stp P env H n fs j x H' n' fs'/\(eJ env j=true->n<=n'/\kept H' ls/\xds P K (pre++post) ((H',n')::hs) ls (put env j.dst x) H' n' fs')/\(eJ env j=false->H'=H/\n'=n/\same H (sn env j) hs/\xds P K (pre++post) hs ls (put env j.dst x) H n fs')
 |[],hs,ls,env,H,n,fs,_,_,_,h=>by obtain⟨x,H',n',fs',h1,h2,h3⟩:=aPy h;refine⟨x,H',n',fs',h1,h2,λhm=>?_⟩;obtain⟨a1,a2,a3,a4⟩:=h3 hm;refine⟨a1,a2,a3,rK (λ_ h=>h) (λH0 hk=>?_) a4⟩;exact(aKy hk).1
 |i::pre,hs,ls,env,H,n,fs,hc,hH,hlo,h=>by obtain⟨xi,Hi,ni,fi,s1,s2,s3⟩:=aPy h;obtain⟨f1,f2,f3⟩:=hc i (by simp);have hc':∀i∈pre,i.free j=true/\j.free i=true/\(i.op.chain&&j.op.chain)=false:=λk hk=>hc k (by simp[hk]);have r1:∀k∈j.reads,(put env i.dst xi).getD k .unk=env.getD k .unk:=aYu λd hd=>(aMb f1 d hd).1;have r1':∀k∈j.reads,env.getD k .unk=(put env i.dst xi).getD k .unk:=λk hk=>(r1 k hk).symm;have r2:∀x,∀k∈i.reads,(put env j.dst x).getD k .unk=env.getD k .unk:=λx=>aYu λd hd=>(aMb f2 d hd).1;have pc:∀x,put (put env i.dst xi) j.dst x=put (put env j.dst x) i.dst xi:=λx=>bUm λd hd=>(aMb f1 d hd).2;obtain⟨m1,m2,m3⟩:=aFh r1;(cases hmi:eJ env i with|true=>obtain⟨k0,k1,k2⟩:=s2 hmi;have hjc:j.op.chain=false:=(by have:=aPn hmi;cases e:j.op.chain<;>simp_all);obtain⟨xj,H',n',fs',t1,_,t3⟩:=bTn pre ((Hi,ni)::hs) ls (put env i.dst xi) Hi ni fi hc' (by simp) (λr π hq=>by rw[m2]at hq;exact o7 (hlo r π hq) k0) k2;obtain⟨rfl,rfl,t4,t5⟩:=t3 (yI hjc);obtain⟨e1,e2⟩:=s1.fresh (bGg hmi);subst e1;rw[m2]at t4;have q:=(aCs t4 (m8 _ hH)).at hlo;have t6:Stp P env H n fi j xj H n fs':=(t1.congr r1').heap (H2:=H) (n2:=n) (yI hjc) q;refine⟨xj,H,n,fs',t6,λhm=>?_,λ_=>⟨rfl,rfl,xP λh0 hh=>?_,?_⟩⟩;{rw[yI hjc]at hm;cases hm};{exact(aCs t4 (m8 _ hh)).trans q.symm};{rw[n7];obtain⟨n1,n2,n3⟩:=aFh (r2 xj);have sI:=(e2 fs').congr (r2 xj);refine aQe sI (λ_=>⟨k0,k1,?_⟩) (λhm=>?_);{rw[<-pc];exact t5};{rw[n1,hmi]at hm;cases hm}}|false=>obtain⟨rfl,rfl,k3,k4⟩:=s3 hmi;obtain⟨xj,H',n',fs',t1,t2,t3⟩:=bTn pre hs (noted Hi (sn env i) ls) (put env i.dst xi) Hi ni fi hc' hH (λr π hq=>by rw[m2]at hq;exact hlo r π hq) k4;have t1':=t1.congr r1';have hfr:∃fj,Stp P env Hi ni fs j xj H' n' fj/\Stp P env Hi ni fj i xi Hi ni fs':=(by(cases hfi:hY env i with|false=>obtain⟨e1,e2⟩:=s1.fresh hfi;subst e1;exact⟨fs',t1',e2 fs'⟩|true=>obtain⟨e1,e2⟩:=s1.freshed hfi;(cases hfj:hY env j with|true=>exact absurd (t1'.freshed hfj).1 e2|false=>obtain⟨e3,e4⟩:=t1'.fresh hfj;subst e3;exact⟨fs,e4 fs,s1⟩)));obtain⟨fj,g1,g2⟩:=hfr;obtain⟨n1,n2,n3⟩:=aFh (r2 xj);refine⟨xj,H',n',fj,g1,λhm=>?_,λhm=>?_⟩;{obtain⟨b0,b1,b2⟩:=t2 (by rw[m1];exact hm);obtain⟨b3,b4⟩:=aKy b1;refine⟨b0,b3,?_⟩;rw[n7];have sI:=(g2.congr (r2 xj)).heap (H2:=H') (n2:=n') (by rw[n1];exact hmi) (by rw[n2];exact b4);refine aQe sI (λhm2=>by rw[n1,hmi]at hm2;cases hm2) (λ_=>⟨?_,?_⟩);{rw[n2];refine xP λh0 hh=>?_;rcases g8.1 hh with rfl|hh;{exact Eqq.refl.lo};{exact(aCs k3 hh).trans b4.symm}};{rw[n2,<-pc];have:noted H' (sn env i) ls=noted Hi (sn env i) ls:=(by(cases hq:sn env i with|none=>rfl|some p=>obtain⟨r,π⟩:=p;rw[hq]at b4;simp only[noted,show H'.get r π=Hi.get r π from b4]));rw[this];exact b2}};{obtain⟨rfl,rfl,b3,b4⟩:=t3 (by rw[m1];exact hm);rw[m2]at b3;refine⟨rfl,rfl,b3,?_⟩;rw[n7];refine aQe (g2.congr (r2 xj)) (λhm2=>by rw[n1,hmi]at hm2;cases hm2) (λ_=>⟨by rw[n2];exact k3,?_⟩);rw[n2,<-pc];exact b4})
end
def FsOk(Φ0 Φ:Fz)(a:Act):Fresh->Prop
 |none=>True
 |some (d,e,z)=>∃b cur,d<a.tmps.size/\a.tmps.getD d undef= .pointer (some ⟨b,0,none⟩)/\Φ b=some (false,.cells cur e (0,0))/\Φ0 b=none/\tD cur.toList=some z
structure RelF (w0 : World) (Φ0 Φ : Fz) (n : Nat) (β : Spots) (env : List AV) (H : Heap) (fs : Fresh) (a : Act) (w : World) : Prop where
 rel:Rel w0 Φ n β env H a w
 le:Φ0.le Φ
 fs:FsOk Φ0 Φ a fs
section
variable {P : Program} {w0 : World} {Φ0 Φ : Fz} {n : Nat} {β : Spots} {env : List AV} {H : Heap} {a : Act} {w : World} {fs : Fresh}
theorem FsOk.put{Φ':Fz}{dst:Option Nat}{v:Value}(h:FsOk Φ0 Φ a fs)(hΦ:Φ.le Φ')(hd:∀d e z,fs=some (d,e,z)->dst≠some d):FsOk Φ0 Φ' (a.put dst v) fs:=by
 cases fs with
 |none=>trivial
 |some p=>
  obtain⟨d,e,z⟩:=p;obtain⟨b,cur,h1,h2,h3,h4,h5⟩:=h;have hne:=hd d e z rfl;refine⟨b,cur,?_,?_,hΦ _ _ h3,h4,h5⟩;{cases dst<;>simpa[Act.put]using h1}
  · cases dst with
    |none=>exact h2
    |some t=>have:t≠d:=λe=>hne (by rw[e]);simp only[Act.put];rw[<-h2];simp only[Array.getD,Array.size_setIfInBounds];rw[dif_pos h1,dif_pos h1];exact Array.getElem_setIfInBounds_ne h1 this
theorem bXl {o:Oper} {t e:TypeId} {m:Nat} {ps:Array (Nat×Operand)} {qs:List (Nat×Nat×Opd)} {z cs:List AV} {inf:TypeInfo} (ho:o.op= .buildSlice t m ps) (ht:P.underlying t=some (.slice e)) (hi:P.info? e=some inf)
 (hz:Go.Proofs.YtcgggihjcelmhaaGreat.zeroCells P e=some z) (hsz:m*inf.size<=2^24) (hzl:z.length=inf.size) (hpos:0<inf.size) (hp:vF inf.size ps.toList=some qs)
 (he:Env Φ n β env a) (hf:eC env (aR z m) qs=some cs):
 ∃cur,(execOp a.eval o).run P w= .ok (.value (.slice (some ⟨w.heap.size,0,none⟩) m m)) {w with heap:=w.heap.push (.cells cur e (0,0))}/\RVs Φ n β cs cur.toList/\m<=maxLen:=by
 obtain⟨inf',v,g1,g2,g3⟩:=gW hz;rw[hi]at g1;cases g1;have hv:=fP (Φ:=Φ) (n:=n) (β:=β) g3;have hl:=hv.length;simp only[Array.length_toList]at hl;have hrep:=aDh hv m;obtain⟨cur,r1,r2,r3⟩:=aBe (λi=>some (i*inf.size,inf.size)) he ps.toList qs (aR z m) cs _ (xZ inf.size _ _ hp) hrep hf;have hm:(ps.map λ(x:Nat×Operand)=>(x.1,a.eval x.2)).toList=ps.toList.map λp=>(p.1,a.eval p.2):=by simp
 refine⟨cur,?_,r2,?_⟩
 · have hne:¬(m*inf.size>2^24):=by omega
   have hsz2:(Array.range (m*v.cells.size)).map (v.cells[·%v.cells.size]!)=(Array.range (m*inf.size)).map (v.cells[·%v.cells.size]!):=(by rw[hl,hzl]);rw[hsz2]at r1;by_cases hm0:m*inf.size=0
   · have:m=0:=by
      rcases Nat.mul_eq_zero.1 hm0 with h|h<;>omega
     subst this;simp only[Nat.zero_mul,Array.range_zero',Array.map_empty]at r1;simp[execOp,ho,Instr.buildSlice,run_underlying ht,sizeOf,typeInfo,hi,r1,newRow,Array.range_zero']
   {simp only[execOp,ho,Instr.buildSlice,Sem.run_bind,run_underlying ht,Result.andThen_ok,sizeOf,typeInfo,run_program,hi,Sem.run_pure,if_neg hne,if_neg hm0,zeroValue,g2,hm,r1,newRow,run_newObj,Sem.run_ite]}
 {have:m<=2^24:=qQQ (Nat.le_mul_of_pos_right m hpos) hsz;unfold maxLen;omega}
theorem bOo{o:Oper}{e:TypeId}{z:List AV}(ho:o.op= .alloc e)(hz:Go.Proofs.YtcgggihjcelmhaaGreat.zeroCells P e=some z):
 ∃cur,(execOp a.eval o).run P w= .ok (.value (.pointer (some ⟨w.heap.size,0,none⟩))) {w with heap:=w.heap.push (.cells cur e (0,0))}/\tD cur.toList=some z:=by
 obtain⟨inf,v,h1,h2,h3⟩:=gW hz;exact⟨v.cells,by simp[execOp,ho,Instr.alloc,newVar,newRow,zeroValue,typeInfo,h1,h2],h3⟩
def Fz.add(Φ:Fz)(b:Nat)(x:Bool×Obj):Fz:=λk=>if k=b then some x else Φ k
theorem Rel.frozen{o:Obj}{f:Bool}(h:Rel w0 Φ n β env H a w):Rel w0 (Φ.add w.heap.size (f,o)) n β env H a {w with heap:=w.heap.push o}/\Φ.le (Φ.add w.heap.size (f,o)):=by
 have hle:Φ.le (Φ.add w.heap.size (f,o)):=λb x hb=>by have:=h.keep.lt hb;simp only[Fz.add];rw[if_neg (by omega)];exact hb
 refine⟨⟨h.env.more hle (k9 _) λ_ _=>rfl,h.heap.kept hle (k9 _) (λ_ _=>rfl) (λr π t hr hx=>?_) (λr π t hr hx=>Below.heap_alloc w _ _ (h.heap.lt hr hx)),λb x hb=>?_,h.since.trans ((Below.refl 0 w).alloc (m9 _) _),h.defers⟩,hle⟩;{have:=h.heap.lt hr hx;simp only[Fz.add];rw[if_neg (by omega)];exact(h.heap.own hr hx).1};{simp only[Fz.add]at hb;split at hb;{rename_i e;cases hb;simp[e]};{exact h.keep.alloc o b x hb}}
theorem aPh{ops:List Oper}{o:Oper}{g:Option (Nat×Bool)}(hg:gJ ops o.guard=some g)(he:Env Φ n β env a){b:Bool}(h:mB g env=some b):Region.wanted o (yielded ops.toArray a.tmps)=b:=by
 (cases hgd:o.guard with|none=>rw[hgd]at hg;simp only[gJ,w7.injEq]at hg;subst hg;simp only[mB,w7.injEq]at h;subst h;simp[Region.wanted,hgd]|some p=>obtain⟨j,want⟩:=p;rw[hgd]at hg;simp only[gJ]at hg;split at hg;{rename_i oj hj;split at hg;{rename_i d hd;simp only[w7.injEq]at hg;subst hg;simp only[mB]at h;split at h;{rename_i b' hb;simp only[w7.injEq]at h;have hy:=wY hj hd he hb;simp only[Region.wanted,hgd,hy];rw[<-h];by_cases hbw:b'=want<;>simp[hbw]};{rename_i hb;simp only[w7.injEq]at h;have hy:=zI hj hd he hb;simp only[Region.wanted,hgd,hy];rw[<-h];simp};{cases h}};{cases hg}};{cases hg})
theorem bKn {ops:List Oper} {j:Nat} {o:Oper} {lo:LOper} {x:AV} {H':Heap} {n':Nat} {fs':Fresh} (hj:ops[j]? =some o) (hl:aFl P ops o=some lo) (h:RelF w0 Φ0 Φ n β env H fs a w) (hS:Stp P env H n fs lo x H' n' fs')
 (hd:∀d e z,fs=some (d,e,z)->lo.dst≠some d) (hsz:lR lo.op=true->∀d,lo.dst=some d->d<env.length) {next:Act->World->Prop} {Q:Exit->Act->World->Prop}
 (hn:∀v Φ' β' w',n<=n'->(∀i,i<n->β' i=β i)->Φ.le Φ'->RelF w0 Φ0 Φ' n' β' (put env lo.dst x) H' fs' (a.put lo.dst v) w'->next (a.put lo.dst v) w'):wpOp P ops.toArray Q j next a w:=by
 obtain⟨g1,g2,g3,g4⟩:=jE hl;unfold wpOp;simp only[List.getElem?_toArray,hj];simp only[Stp]at hS;split at hS
 · rename_i hg
   rw[aPh g2 h.rel.env hg,if_pos rfl];refine .inl ?_;split at hS
   · rename_i be bsz bm bz bps hop
     split at hS
     · rename_i cs hcs
       obtain⟨rfl,rfl,rfl,rfl⟩:=hS;rw[hop]at g1;unfold lD at g1;split at g1
       case h_7 t m ps ho=>split at g1;{rename_i e h1;split at g1;{rename_i inf z h2 h3;split at g1;{rename_i h4;obtain⟨qs,h5,h6⟩:=w9.1 g1;cases h6;obtain⟨cur,r1,r2,r3⟩:=bXl (P:=P) (w:=w) ho h1 h2 h3 h4.1 h4.2.1 h4.2.2 h5 h.rel.env hcs;unfold Oper.wp;rw[r1];simp only[Oper.upon];rw[<-g3];obtain⟨k1,k2⟩:=h.rel.frozen (o:= .cells cur be (0,0)) (f:=true);refine hn _ _ β _ (k9 _) (λ_ _=>rfl) k2 ⟨⟨k1.env.put ?_,k1.heap,k1.keep,k1.since,?_⟩,h.le.trans k2,h.fs.put k2 hd⟩;{unfold rC;split;{simp only[RV];exact⟨_,rfl⟩};{simp only[RV];refine⟨_,_,cur.toList,rfl,k9 _,r3,.inr ⟨_,0,cur,be,(0,0),rfl,by simp[Fz.add],λi hi=>?_⟩,r2.more k2 (k9 _) λ_ _=>rfl⟩;simp only[Array.length_toList]at hi;simp[x8,hi]}};{cases lo.dst<;>exact h.rel.defers}};{cases g1}};{cases g1}};{cases g1}
       all_goals
        try (obtain⟨y,h1,h2⟩:=w9.1 g1;cases h2;done)
        try (repeat' (split at g1))<;>first|(cases g1;done)|(obtain⟨y,h1,h2⟩:=w9.1 g1;cases h2;done)
     {exact hS.elim}
   · rename_i fe fz hop
     split at hS
     · rename_i d hdst
       obtain⟨rfl,rfl,rfl,rfl⟩:=hS;rw[hop]at g1;unfold lD at g1;split at g1
       case h_5 e ho=>obtain⟨z,h1,h2⟩:=w9.1 g1;cases h2;obtain⟨cur,r1,r2⟩:=bOo (P:=P) (w:=w) (a:=a) ho h1;unfold Oper.wp;rw[r1];simp only[Oper.upon];rw[<-g3];obtain⟨k1,k2⟩:=h.rel.frozen (o:= .cells cur fe (0,0)) (f:=false);refine hn _ _ β _ (k9 _) (λ_ _=>rfl) k2 ⟨⟨k1.env.put (by simp[RV]),k1.heap,k1.keep,k1.since,?_⟩,h.le.trans k2,?_⟩;{cases lo.dst<;>exact h.rel.defers};{have hlt:=hsz (by rw[hop];rfl) d hdst;rw[h.rel.env.len]at hlt;refine⟨w.heap.size,cur,by simp[Act.put,hdst,hlt],by simp[Act.put,hdst,Array.getD,hlt],by simp[Fz.add],?_,r2⟩;(cases e0:Φ0 w.heap.size with|none=>rfl|some y=>have:=h.rel.keep.lt (h.le _ _ e0);omega)}
       all_goals
        try (obtain⟨y,h1,h2⟩:=w9.1 g1;cases h2;done)
        try (repeat' (split at g1))<;>first|(cases g1;done)|(obtain⟨y,h1,h2⟩:=w9.1 g1;cases h2;done)
     {exact hS.elim}
   {obtain⟨hx,rfl⟩:=hS;refine aHk (K:=λv b c=>x=v/\H'=b/\n'=c) g1 g4 h.rel hx λx2 v Φ' H2 n2 β' w' ⟨e1,e2,e3⟩ k1 k2 k3 k4=>?_;subst e1;subst e2;subst e3;rw[<-g3]at k4 ⊢;exact hn v Φ' β' w' k1 k2 k3 ⟨k4,h.le.trans k3,h.fs.put k3 hd⟩}
 {rename_i hg;rw[aPh g2 h.rel.env hg,if_neg (by simp)];obtain⟨rfl,rfl,rfl,rfl⟩:=hS;rw[<-g3];refine hn undef Φ β w (k9 _) (λ_ _=>rfl) (Fz.le_refl Φ) ⟨h.rel.put lo.dst (Fz.le_refl Φ) (k9 _) (λ_ _=>rfl) (by simp[RV]) h.rel.heap h.rel.keep (Below.refl _ _),h.le,h.fs.put (Fz.le_refl Φ) hd⟩};{exact hS.elim}
theorem RelF.link{d:Nat}{e:TypeId}{z:List AV}(h:RelF w0 Φ0 Φ n β env H (some (d,e,z)) a w):
 ∃Φ' β',Φ0.le Φ'/\(∀i,i<n->β' i=β i)/\Rel w0 Φ' (n+1) β' (put env (some d) (.ptr n [] 0)) ((n,some ⟨e,z⟩)::H) a w:=by
 obtain⟨⟨he,hH,hK,hs,hdf⟩,hle,b,cur,h1,h2,h3,h4,h5⟩:=h;generalize hΦ:(λk=>if k=b then none else Φ k:Fz)=Φ';have hΦk:∀k,Φ' k=if k=b then none else Φ k:=λk=>by rw[<-hΦ]
 have htle:Φ.tle Φ':=λk o hk=>by
  rw[hΦk,if_neg];exact hk
  rintro rfl;rw[h3]at hk;cases hk
 have hb:=hK _ _ h3;generalize hβ:(λi=>if i=n then λ_=>(⟨true,b,cur.size,0⟩:Spot)else β i)=β';have hβn:∀π,β' n π=⟨true,b,cur.size,0⟩:=λπ=>by rw[<-hβ];simp
 have hβo:∀i,i<n->β' i=β i:=λi hi=>by rw[<-hβ];simp[show i≠n by omega]
 have hz:RVs Φ' (n+1) β' z cur.toList:=fP h5;have hno:=aEo hz;have hl:=hz.length;simp only[Array.length_toList]at hl;have hsep:∀r π t,H.get r π=some t->(β r π).ex=true->(β r π).b≠b:=λr π t hr hx e0=>by have:=(hH.own hr hx).1;rw[e0,h3]at this;cases this
 have hnew:∀π t,Heap.get ((n,some ⟨e,z⟩)::H) n π=some t->π=[]/\t=⟨e,z⟩:=by
  intro π t ht;rcases List.eq_nil_or_concat π with rfl|⟨σ,j,rfl⟩;{simp only[Heap.get,Heap.get1,if_true,w7.injEq]at ht;exact⟨rfl,ht.symm⟩}
  · have hd:Heap.get ((n,some ⟨e,z⟩)::H) n [j]=none:=by
     have hnj:=vN hno j;simp only[Heap.get,Heap.get1,if_true];exact hnj
    rw[List.concat_eq_append,eO hd σ]at ht;cases ht
 refine⟨Φ',β',λk x hk=>?_,hβo,⟨?_,⟨λr π t hr=>?_,λr π r' π' hr hr' hx hx' he=>?_⟩,λk x hk=>?_,hs,hdf⟩⟩
 · rw[hΦk,if_neg]
   {exact hle _ _ hk}
   · rintro rfl;rw[h4]at hk;cases hk
 {have he2:Env Φ' (n+1) β' env a:=⟨λt=>(he.rel t).moreT htle (Nat.le_succ _) hβo,he.len⟩;refine⟨λt=>?_,by simpa[put]using he.len⟩;have h0:=he2.rel t;simp only[put];rw[fV];split;{rename_i hc;obtain⟨rfl,_⟩:=hc;rw[h2];simp only[RV,hβn];exact⟨Nat.lt_succ_self _,trivial,trivial⟩};{exact h0}};{by_cases e1:n=r;{subst e1;obtain⟨rfl,rfl⟩:=hnew π t hr;refine⟨Nat.lt_succ_self _,.inr ?_⟩;rw[hβn];refine⟨rfl,by rw[hΦk];simp,cur,hb,by simp,by simp only;omega,?_⟩;rw[iF hno];show RVs Φ' (n+1) β' z ((cur.toList.drop 0).take z.length);rw[List.drop_zero];exact hz.take_length};{rw[bH e1]at hr;obtain⟨k1,k2⟩:=hH.root r π t hr;refine⟨by omega,?_⟩;unfold NodeIs at k2 ⊢;rw[hβo r k1];refine k2.imp id λ⟨c1,c2,cu,c3,c4,c5,c6⟩=>⟨c1,by rw[hΦk,if_neg (hsep r π t hr c1)];exact c2,cu,c3,c4,c5,c6.moreT htle (Nat.le_succ _) hβo⟩}};{obtain⟨t,ht⟩:=y3.1 hr;obtain⟨t',ht'⟩:=y3.1 hr';by_cases e1:n=r<;>by_cases e2:n=r';{subst e1;subst e2;obtain⟨rfl,_⟩:=hnew π t ht;obtain⟨rfl,_⟩:=hnew π' t' ht';exact⟨rfl,rfl⟩};{subst e1;rw[bH e2]at ht';have k1:=(hH.root _ _ _ ht').1;rw[hβn]at he;rw[hβo r' k1]at hx' he;exact absurd he.symm (hsep _ _ _ ht' hx')};{subst e2;rw[bH e1]at ht;have k1:=(hH.root _ _ _ ht).1;rw[hβn]at he;rw[hβo r k1]at hx he;exact absurd he (hsep _ _ _ ht hx)};{rw[bH e1]at ht;rw[bH e2]at ht';have k1:=(hH.root _ _ _ ht).1;have k2:=(hH.root _ _ _ ht').1;rw[hβo r k1]at hx he;rw[hβo r' k2]at hx' he;exact hH.apart _ _ _ _ (by simp[ht]) (by simp[ht']) hx hx' he}};{rw[hΦk]at hk;split at hk;{cases hk};{exact hK _ _ hk}}
end
def bB(listed:Array Bool)(h:Nat):List Nat:=(u7 h).filter λi=>!listed.getD i true
theorem aPp{j h:Nat}(hj:j<h):u7 h=u7 j++j::(List.range' (j+1) (h-(j+1))):=by
 have h1:h=j+(1+(h-(j+1))):=by omega
 conv=>lhs;rw[h1]
 rw[List.range_add,Nat.add_comm 1,List.range_succ_eq_map];simp only[m5,List.map_map,Nat.add_zero];congr 2;rw[List.range'_eq_map_range];apply List.map_congr_left;intro a _;simp only[Function.comp];omega
theorem oE{listed:Array Bool}{j h:Nat}(hj:j<h)(hl:listed.getD j true=false)(hs:j<listed.size):
 ∃pre post,bB listed h=pre++j::post/\(∀i∈pre,i<j/\listed.getD i true=false)/\bB (listed.setIfInBounds j true) h=pre++post:=by
 refine⟨(u7 j).filter λi=>!listed.getD i true,(List.range' (j+1) (h-(j+1))).filter λi=>!listed.getD i true,?_,?_,?_⟩;{unfold bB;rw[aPp hj,List.filter_append,List.filter_cons,hl];rfl};{intro i hi;simp only[qZJ,f8,u0]at hi;exact hi};{unfold bB;rw[aPp hj,List.filter_append,List.filter_cons];have hset:(listed.setIfInBounds j true).getD j true=true:=(by simp[Array.getD,hs]);rw[hset];simp only[Bool.not_true,o8,if_false];congr 1;{apply List.filter_congr;intro i hi;simp only[f8]at hi;rw[getD_set_ne true (by omega)]};{apply List.filter_congr;intro i hi;simp only[List.mem_range']at hi;obtain⟨k,_,rfl⟩:=hi;rw[getD_set_ne true (by omega)]}}
section
variable {P : Program} {w0 : World} {Φ0 : Fz} {n0 : Nat} {β0 : Spots} {ops : List Oper} {los : List LOper} {h : Nat} {K : DK} {Q : Exit → Act → World → Prop}
theorem vK{i j:Nat}{o:Oper}(hj:ops[j]? =some o)(he:sB ops j i=true):∃e∈o.after,e.on=i/\Region.binds .any e=true:=by simp only[sB,hj,Array.any_eq_true']at he;obtain⟨e,h1,h2⟩:=he;simp only[x5,beq_iff_eq]at h2;exact⟨e,h1,h2.1,h2.2⟩
def yQ(ops:List Oper)(listed:Array Bool):Prop:=∀k o,ops[k]? =some o->listed.getD k true=true->∀e∈o.after,Region.binds .any e=true->listed.getD e.on false=true
theorem aEg{listed:Array Bool}{i:Nat}(h:listed.getD i false=true):listed.getD i true=true:=by rcases Nat.lt_or_ge i listed.size with h1|h1;{simpa[Array.getD,h1]using h};{simp[Array.getD,Nat.not_lt.2 h1]}
theorem wK{listed:Array Bool}(hc:yQ ops listed):∀(n:Nat) (S:List Nat),(∀k∈S,∀i',sB ops k i'=true->listed.getD i' false=true)->∀x∈uF ops n S,x∈S\/listed.getD x true=true
 |0,_,_,x,hx=> .inl hx
 |i+1,S,hS,x,hx=>by
  unfold uF at hx;split at hx
  · rename_i he
    simp only[List.any_eq_true]at he;obtain⟨k,hk,he⟩:=he;have hl:=hS k hk i he
    have hS':∀k∈i::S,∀i',sB ops k i'=true->listed.getD i' false=true:=λk' hk' j hj=>by
     rcases g8.1 hk' with rfl|hk'
     · cases ho:ops[k']? with
       |none=>simp[sB,ho]at hj
       |some o=>obtain⟨ed,h3,rfl,h4⟩:=vK ho hj;exact hc k' o ho (aEg hl) ed h3 h4
     {exact hS k' hk' j hj}
    rcases wK hc i (i::S) hS' x hx with h|h;{rcases g8.1 h with rfl|h;{exact .inr (aEg hl)};{exact .inl h}};{exact .inr h}
  {exact wK hc i S hS x hx}
theorem bJb(hok:hT ops los h=true){i j:Nat}(hij:i<j)(hj:j<los.length):
 sB ops j i=true\/∃a b,los[i]? =some a/\los[j]? =some b/\a.free b=true/\b.free a=true/\((a.op.chain&&b.op.chain)=false\/i∈uF ops j [j]):=by
 simp only[hT,x5,w5,f8]at hok;have h1:=(hok.2 j hj).2 i hij;simp only[x5,r9]at h1;rcases h1.2 with h1|h1;{exact .inl h1};{right;split at h1;{rename_i a b ha hb;simp only[x5,r9,u0,List.contains_iff_mem]at h1;exact⟨a,b,ha,hb,h1.1.1,h1.1.2,h1.2⟩};{cases h1}}
theorem bEp(hok:hT ops los h=true){i j:Nat}(hij:i<j)(hj:j<los.length):∃a b,los[i]? =some a/\los[j]? =some b/\∀d,a.dst=some d->b.dst≠some d:=by simp only[hT,x5,w5,f8]at hok;have h1:=(hok.2 j hj).2 i hij;have h2:=h1.1;split at h2;{rename_i a b ha hb;refine⟨a,b,ha,hb,λd hd=>?_⟩;rw[hd]at h2;simp only[Option.isNone_some,qQU,bne_iff_ne,ne_eq]at h2;exact λe=>h2 e.symm};{cases h2}
theorem bJy(hok:hT ops los h=true){listed:Array Bool}(hc:yQ ops listed):∀(j:Nat) (o:Oper),ops[j]? =some o->j<los.length->(∀e∈o.after,Region.binds .any e=true->listed.getD e.on false=true)->aCf los j=true->
 ∀i,i<j->aCf los i=true->listed.getD i true=true:=by
 intro j;induction j using Nat.strongRecOn with
 |_ j ih=>
  intro o hj hjl hr hcj i hij hci;have edge:∀k,sB ops j k=true->listed.getD k false=true:=λk hk=>by obtain⟨e,h1,rfl,h3⟩:=vK hj hk;exact hr e h1 h3
  rcases bJb hok hij hjl with h1|⟨a,b,ha,hb,_,_,h2|h2⟩;{exact aEg (edge i h1)};{simp only[aCf,ha]at hci;simp only[aCf,hb]at hcj;rw[hci,hcj]at h2;cases h2};{rcases wK hc j [j] (λk hk i' he=>by rw[u9.1 hk]at he;exact edge i' he) i h2 with h3|h3;{rw[u9.1 h3]at hij;omega};{exact h3}}
theorem aGp{l:List Oper}:∀{x:List Oper} {y:List LOper},bX P l x=some y->y.length=x.length
 |[],y,h=>by simp only[bX,w7.injEq]at h;subst h;rfl
 |o::x,y,h=>by simp only[bX]at h;split at h;{cases h;simp only[y7];rw[aGp (by assumption)]};{cases h}
theorem aMt{l:List Oper}:∀{x:List Oper} {y:List LOper},bX P l x=some y->∀(i:Nat) (o:Oper),x[i]? =some o->∃lo,y[i]? =some lo/\aFl P l o=some lo
 |[],y,h,i,o,hi=>by simp at hi
 |o'::x,y,h,i,o,hi=>by simp only[bX]at h;split at h;{rename_i lo los' h1 h2;cases h;(cases i with|zero=>simp only[List.getElem?_cons_zero,w7.injEq]at hi;subst hi;exact⟨lo,by simp,h1⟩|succ i=>simpa using aMt h2 i o (by simpa using hi))};{cases h}
def bKg(P:Program)(tail:List LOper)(Q:Post):DK:=λenv H n fs=>match fs with
 |none=>eX P (Q .normal) tail env H n
 |some (d,e,z)=>eX P (Q .normal) tail (put env (some d) (.ptr n [] 0)) ((n,some ⟨e,z⟩)::H) (n+1)
theorem bEy(hon:∀j o,ops[j]? =some o->∀e∈o.after,Region.binds .any e=true->e.on<j)(htl:∀j,h<=j->j<ops.length->∀i,h<=i->i<j->i∈uF ops j [j]):
 ∀(fuel k:Nat) (listed:Array Bool) (a:Act) (w:World),h<=k->listed.size=ops.length->yQ ops listed->(∀i,i<k->i<ops.length->listed.getD i true=true)->(∀i,k<=i->i<ops.length->listed.getD i true=false)->(bB listed ops.length).length<=fuel->wpList P ops.toArray Q (ops.drop k) a w->wpAny P .any ops.toArray Q fuel listed a w:=by
 intro fuel;induction fuel with
 |zero=>
  intro k listed a w hk hsz hc h1 h2 hf hw;have hnil:bB listed ops.length=[]:=m6.1 (by omega);have hkl:ops.length<=k:=qJK λhlt=>by have:k∈bB listed ops.length:=(by simp only[bB,qZJ,f8,hlt,h2 k (k9 _) hlt];exact⟨trivial,rfl⟩);rw[hnil]at this;cases this
  rw[List.drop_eq_nil_of_le hkl]at hw;refine⟨?_,hw⟩;rw[List.eq_nil_iff_forall_not_mem];intro j hj;obtain⟨g1,o,g2,_⟩:=mem_ready.1 hj;have hjl:j<ops.length:=(by simpa using(Array.getElem?_eq_some_iff.1 g2).1);rw[h1 j (by omega) hjl]at g1;cases g1
 |succ fuel ih=>
  intro k listed a w hk hsz hc h1 h2 hf hw;refine⟨λhnone=>?_,λj hj=>?_⟩
  · have hkl:ops.length<=k:=qJK λhlt=>by
     have hmem:k∈Region.ready .any ops.toArray listed:=(by rw[mem_ready];refine⟨h2 k (k9 _) hlt,ops[k],by simp[hlt],λed hed hb=>?_⟩;have h3:=hon k ops[k] (by simp[hlt]) ed hed hb;have h4:=h1 ed.on h3 (by omega);have hlt2:ed.on<listed.size:=(by omega);simpa[Array.getD,hlt2]using h4);rw[hnone]at hmem;cases hmem
    rw[List.drop_eq_nil_of_le hkl]at hw;exact hw
  · obtain⟨hjun,o,ho,hr⟩:=mem_ready.1 hj
    have ho':ops[j]? =some o:=(by simpa using ho);have hjl:j<ops.length:=(n9.1 ho').1;have hkj:k<=j:=qJK λhlt=>by rw[h1 j hlt hjl]at hjun;cases hjun
    have hall:∀i,i<j->listed.getD i true=true:=λi hi=>by
     by_cases hik:i<k;{exact h1 i hik (by omega)}
     · rcases wK hc j [j] (λk' hk' i' he=>by
        rw[u9]at hk';subst hk';obtain⟨ed,h3,rfl,h4⟩:=vK ho' he;exact hr ed h3 h4) i (htl j (by omega) hjl i (by omega) hi)with h5|h5
       {rw[u9]at h5;omega};{exact h5}
    obtain rfl:k=j:=Nat.le_antisymm hkj (qJK λhlt=>by have:=h2 k (k9 _) (by omega);rw[hall k hlt]at this;cases this);have hset:(listed.setIfInBounds k true).size=ops.length:=(by simp[hsz]);have hclosed:yQ ops (listed.setIfInBounds k true):=(by intro k' ok hk' hkd e he hb;by_cases hkj':k'=k;{subst hkj';rw[ho']at hk';cases hk';exact getD_set_true (hr e he hb)};{rw[getD_set_ne true (λe=>hkj' e.symm)]at hkd;exact getD_set_true (hc k' ok hk' hkd e he hb)});obtain⟨apre,apost,as1,as2,as3⟩:=oE hjl hjun (by omega);have hfuel:(bB (listed.setIfInBounds k true) ops.length).length<=fuel:=(by rw[as3];rw[as1]at hf;simp only[y5,y7]at hf ⊢;omega);have hnext:∀a' w',wpList P ops.toArray Q (ops.drop (k+1)) a' w'->wpAny P .any ops.toArray Q fuel (listed.setIfInBounds k true) a' w':=λa' w' hq=>by refine ih (k+1) _ a' w' (by omega) hset hclosed (λi hi hil=>?_) (λi hi hil=>?_) hfuel hq;{by_cases e:i=k;{subst e;simp[Array.getD,show i<listed.size by omega]};{rw[getD_set_ne true (λe2=>e e2.symm)];exact h1 i (by omega) hil}};{rw[getD_set_ne true (by omega)];exact h2 i (by omega) hil}
    have hdrop:ops.drop k=o::ops.drop (k+1):=(by rw[List.drop_eq_getElem_cons hjl];rw[y9 hjl]at ho';cases ho';rfl);rw[hdrop]at hw;unfold wpOp;simp only[ho];unfold wpList at hw;split;{rename_i hwt;simp only[hwt,if_true]at hw;exact hw.imp (Oper.wp_mono hnext) id};{rename_i hwt;simp only[hwt]at hw;exact hnext _ _ hw}
theorem bSn{o:Oper}{x:Opd}{c:Nat}(hl:lD P o=some (.ext x c)):∃x0,o.op= .extract x0 c/\aI x0=some x:=by
 unfold lD at hl;split at hl
 case h_16 x0 c0 ho=>obtain⟨y,h1,h2⟩:=w9.1 hl;cases h2;exact⟨x0,ho,h1⟩
 all_goals
  try (obtain⟨y,h1,h2⟩:=w9.1 hl;cases h2;done)
  try (repeat' (split at hl))<;>first|(cases hl;done)|(obtain⟨y,h1,h2⟩:=w9.1 hl;cases h2;done)
theorem bJz{o:Oper}{x:Opd}{c:Nat}{Φ:Fz}{n:Nat}{β:Spots}{env:List AV}{a:Act}{v:AV}{H H':Heap}{n':Nat}(hl:lD P o=some (.ext x c))(hg:o.guard=none)(he:Env Φ n β env a)(h:xop P env H n (λu b d=>v=u/\H'=b/\n'=d) (.ext x c)):
 ∃u,Yields P ops.toArray o u a/\RV Φ n β v u:=by
 obtain⟨x0,ho,hx⟩:=bSn hl;have h0:=aK he hx;simp only[xop]at h;split at h
 · rename_i vs e1
   rw[e1]at h0;simp only[RV]at h0;obtain⟨arr,g1,g2⟩:=h0;have hln:=g2.length;simp only[Array.length_toList]at hln
   have key:∀(vs:List AV) (us:List Value),RVt Φ n β vs us->∀i,i<vs.length->RV Φ n β (vs.getD i .unk) (us.getD i undef):=by
    intro vs;induction vs with
    |nil=>intro us _ i hi;simp at hi
    |cons y vs ih=>intro us hu i hi;simp only[RVt]at hu;obtain⟨u,us',rfl,k1,k2⟩:=hu;(cases i with|zero=>exact k1|succ i=>simpa using ih us' k2 i (by simpa using hi))
   have hi:c<arr.size:=(by omega);refine⟨arr[c],.inl ⟨by simp[Region.wanted,hg],λw=>by simp[execOp,ho,g1,Instr.extract,hi]⟩,?_⟩;have:=key vs arr.toList g2 c h.1;rw[<-h.2.1]at this;simpa[x8,hi]using this
 {exact h.elim}
theorem bMh{i:Nat}(h':aCb los i=true):∃d x c,los[i]? =some ⟨some d,.ext x c,none⟩:=by unfold aCb at h';split at h';{rename_i o ho;obtain⟨dst,op,g⟩:=o;split at h';{rename_i q1 q2 q3;simp only at q1 q2 q3;subst q1;subst q2;subst q3;exact⟨_,_,_,ho⟩};{cases h'}};{cases h'}
theorem bQe{o:Oper}{ag:Bool}{m:Nat}{y:Opd}(hl:lD P o=some (.load ag m y)):∃x,aI x=some y:=by
 unfold lD at hl;split at hl
 case h_8 t x ho=>split at hl;{rename_i h1 h2 h3;cases hl;exact⟨x,h3⟩};{cases hl}
 case h_26=>cases hl
 all_goals
  try (obtain⟨y,h1,h2⟩:=w9.1 hl;cases h2;done)
  try (repeat' (split at hl))<;>first|(cases hl;done)|(obtain⟨y,h1,h2⟩:=w9.1 hl;cases h2;done)
theorem bUh{Φ:Fz}{n:Nat}{β:Spots}{env:List AV}{a:Act}{o:Oper}{lo:LOper}(he:Env Φ n β env a)(hl:lD P o=some lo.op):∀r π,sn env lo=some (r,π)->r<n:=by intro r π h;unfold sn at h;split at h;{unfold gV at h;split at h;{rename_i ag m y ho;rw[ho]at hl;obtain⟨x,hx⟩:=bQe hl;have hv:=aK he hx;split at h;{rename_i r' π' o' hy;cases h;rw[hy]at hv;simp only[RV]at hv;exact hv.1};{cases h}};{cases h}};{cases h}
theorem bUq (hlow:bX P ops ops=some los) (hok:hT ops los h=true) (hon:∀j o,ops[j]? =some o->∀e∈o.after,Region.binds .any e=true->e.on<j) (htl:∀j,h<=j->j<ops.length->∀i,h<=i->i<j->i∈uF ops j [j])
 (hQ:∀(d:Option Nat) (v:Value) c a w,Q (.panic c) (a.put d v) w->Q (.panic c) a w)
 (hend:∀env H n fs Φ β a w,n0<=n->(∀i,i<n0->β i=β0 i)->RelF w0 Φ0 Φ n β env H fs a w->K env H n fs->wpList P ops.toArray Q (ops.drop h) a w):
 ∀(fuel:Nat) (listed:Array Bool) (a:Act) (w:World),listed.size=ops.length->yQ ops listed->(bB listed ops.length).length<=fuel->(∀j,h<=j->j<ops.length->listed.getD j true=false)->
  (∀i,i<h->listed.getD i true=true\/aEm ops los h i=true)->
  (∃Φ β env H n fs,n0<=n/\(∀i,i<n0->β i=β0 i)/\RelF w0 Φ0 Φ n β env H fs a w/\(∀d e z,fs=some (d,e,z)->∀i∈bB listed h,∀lo,los[i]? =some lo->lo.dst≠some d)/\xds P K ((bB listed h).map λi=>los.getD i ⟨none,.mv (.c .unk),none⟩) [(H,n)] [] env H n fs)->
  wpAny P .any ops.toArray Q fuel listed a w:=by
 have hll:=aGp hlow;have hlh:h<=los.length:=(by simp only[hT,x5]at hok;exact Nat.le_of_ble_eq_true hok.1.2);have hns:Region.noSelect ops.toArray=true:=(by simp only[hT,x5]at hok;exact hok.1.1);intro fuel;induction fuel with
 |zero=>intro listed a w hsz hc hf htail hlate ⟨Φ,β,env,H,n,fs,k1,k2,k4,k5,k6⟩;have hu:bB listed h=[]:=(by(cases hu:bB listed h with|nil=>rfl|cons i l=>have hi:i∈bB listed h:=(by rw[hu];simp);simp only[bB,qZJ,f8,u0]at hi;have:i∈bB listed ops.length:=(by simp only[bB,qZJ,f8,u0];exact⟨by omega,hi.2⟩);have hnil:bB listed ops.length=[]:=m6.1 (by omega);rw[hnil]at this;cases this));rw[hu]at k6;refine bEy hon htl 0 h listed a w (k9 _) hsz hc (λi hi hil=>?_) htail hf (hend env H n fs Φ β a w k1 k2 k4 k6);(cases e:listed.getD i true with|true=>rfl|false=>have:i∈bB listed h:=(by simp only[bB,qZJ,f8,u0];exact⟨hi,e⟩);rw[hu]at this;cases this)
 |succ fuel ih=>
  intro listed a w hsz hc hf htail hlate ⟨Φ,β,env,H,n,fs,k1,k2,k4,k5,k6⟩;cases hu:bB listed h with
  |nil=>rw[hu]at k6;refine bEy hon htl (fuel+1) h listed a w (k9 _) hsz hc (λi hi hil=>?_) htail hf (hend env H n fs Φ β a w k1 k2 k4 k6);(cases e:listed.getD i true with|true=>rfl|false=>have:i∈bB listed h:=(by simp only[bB,qZJ,f8,u0];exact⟨hi,e⟩);rw[hu]at this;cases this)
  |cons i rest=>
   have hmem:i∈bB listed h:=(by rw[hu];simp);have hi:=hmem;simp only[bB,qZJ,f8,u0]at hi;obtain⟨hih,hiu⟩:=hi;have hil:i<ops.length:=(by omega);have hlb:aEm ops los h i=true:=(hlate i hih).resolve_left (by rw[hiu];simp);have hlb2:=hlb;simp only[aEm,x5]at hlb2;obtain⟨⟨_,hx⟩,hlb3⟩:=hlb2;obtain⟨d,x,c,hlo⟩:=bMh hx;have ho':ops[i]? =some ops[i]:=(by simp[hil]);generalize ops[i]=o at ho';rw[ho']at hlb3;simp only[x5,Array.all_eq_true_iff_forall_mem,w5,f8]at hlb3;obtain⟨hl1,hl2⟩:=hlb3;obtain⟨lo,hlo',hlow1⟩:=aMt hlow i o ho';rw[hlo]at hlo';cases hlo';obtain⟨g1,g2,g3,g4⟩:=jE hlow1;simp only at g1 g2 g3
   have hgd:o.guard=none:=by
    cases hgd:o.guard with
    |none=>rfl
    |some p=>
     obtain⟨j,want⟩:=p;rw[hgd]at g2;simp only[gJ]at g2
     repeat' (split at g2)
     all_goals cases g2
   obtain⟨pre,post,s1,s2,s3⟩:=oE hih hiu (by omega);obtain⟨rfl,rfl⟩:pre=[]/\post=rest:=(by rw[hu]at s1;(cases pre with|nil=>simp only[List.nil_append,List.cons.injEq]at s1;exact⟨rfl,s1.2.symm⟩|cons p pre=>simp only[n7,List.cons.injEq]at s1;have:=(s2 p (by simp)).1;omega));rw[hu,m5]at k6;have hgi:los.getD i ⟨none,.mv (.c .unk),none⟩=⟨some d,.ext x c,none⟩:=(by simp[x8,hlo]);rw[hgi]at k6;obtain⟨xv,H',n',fs',t1,_,t3⟩:=aPy k6;have hmv:eJ env (⟨some d,.ext x c,none⟩:LOper)=false:=yI rfl;obtain⟨rfl,rfl,_,t4⟩:=t3 hmv;obtain⟨rfl,_⟩:=t1.fresh (by simp[hY,lR]);have hxo:xop P env H' n' (λu b e=>xv=u/\H'=b/\n'=e) (.ext x c):=(by simp only[Stp,mB]at t1;exact t1.1);obtain⟨u,hy,hrv⟩:=bJz (ops:=ops) g1 hgd k4.rel.env hxo;have hready:i∈Region.ready .any ops.toArray listed:=(by rw[mem_ready];refine⟨hiu,o,by simpa using ho',λe he hb=>?_⟩;have hlt:=hon i o ho' e he hb;have h5:=hl1 e he;simp only[hb,Bool.not_true,qQU,u0]at h5;have h6:=(hlate e.on (by omega)).resolve_right (λhl=>by simp only[aEm,x5]at hl;rw[h5]at hl;cases hl.1.2);have hlt2:e.on<listed.size:=(by omega);simpa[Array.getD,hlt2]using h6);have hdst:(o.dst:Option Nat)=some d:=g3.symm;refine wpAny_first (i:=i) (oi:=o) (v:=u) (by simpa using ho') (Region.noSelect_spec hns) (λc' a' w'=>hQ o.dst u c' a' w') fuel listed a w (λj oj hoj hne hju hno=>?_) hready hy ?_;{have hoj':ops[j]? =some oj:=(by simpa using hoj);have hjl:=(n9.1 hoj').1;have h5:=hl2 j hjl;rw[hoj']at h5;simp only[r9,beq_iff_eq,x5,u0]at h5;rcases h5 with((h5|h5)|h5)|h5;{exact absurd h5 hne};{exfalso;have hjh:j<h:=(by have:=h5.1;simp only[Nat.blt,Nat.ble_eq]at this;omega);have h6:=(hlate j hjh).resolve_left (by rw[hju];simp);simp only[aEm,x5]at h6;rw[h5.2]at h6;cases h6.1.2};{exfalso;obtain⟨ed,q1,q2,q3⟩:=vK hoj' h5;exact hno ed q1 q3 q2};{exact h5}}
   · have hclosed:yQ ops (listed.setIfInBounds i true):=by
      intro k ok hk hkd e he hb;by_cases hki:k=i;{subst hki;rw[ho']at hk;cases hk;obtain⟨_,o2,ho2,hr2⟩:=mem_ready.1 hready;have:ops[k]? =some o2:=(by simpa using ho2);rw[ho']at this;cases this;exact getD_set_true (hr2 e he hb)};{rw[getD_set_ne true (λe=>hki e.symm)]at hkd;exact getD_set_true (hc k ok hk hkd e he hb)}
     obtain⟨apre,apost,as1,as2,as3⟩:=oE hil hiu (by omega);have hfuel:(bB (listed.setIfInBounds i true) ops.length).length<=fuel:=(by rw[as3];rw[as1]at hf;simp only[y5,y7]at hf ⊢;omega);refine ih (listed.setIfInBounds i true) _ w (by simp[hsz]) hclosed hfuel (λk hk hkl=>?_) (λk hk=>?_) ⟨Φ,β,_,H',n',fs',k1,k2,⟨k4.rel.put o.dst (Fz.le_refl Φ) (k9 _) (λ_ _=>rfl) hrv k4.rel.heap k4.rel.keep (Below.refl _ _),k4.le,k4.fs.put (Fz.le_refl Φ) λd2 e z hfs=>?_⟩,λd2 e z hfs k hk lo hlk=>?_,?_⟩;{rw[getD_set_ne true (by omega)];exact htail k hk hkl};{by_cases hki:k=i;{subst hki;left;simp[Array.getD,show k<listed.size by omega]};{rw[getD_set_ne true (λe=>hki e.symm)];exact hlate k hk}};{rw[hdst];exact k5 d2 e z hfs i hmem _ hlo};{rw[s3]at hk;exact k5 d2 e z hfs k (by rw[hu];exact m8 _ hk) lo hlk};{rw[s3,hdst];exact rK (λ_ h=>h) (λH0 hk=>(aKy hk).1) t4}
theorem bWa (hlow:bX P ops ops=some los) (hok:hT ops los h=true) (hQ:∀(d:Option Nat) (v:Value) c a w,Q (.panic c) (a.put d v) w->Q (.panic c) a w) {env0:Nat} (hdst:∀lo∈los,lR lo.op=true->∀d,lo.dst=some d->d<env0)
 (hend:∀env H n fs Φ β a w,n0<=n->(∀i,i<n0->β i=β0 i)->RelF w0 Φ0 Φ n β env H fs a w->K env H n fs->wpList P ops.toArray Q (ops.drop h) a w):
 ∀(fuel:Nat) (listed:Array Bool) (a:Act) (w:World),listed.size=ops.length->yQ ops listed->(bB listed ops.length).length<=fuel->(∀j,h<=j->j<ops.length->listed.getD j true=false)->
  (∃Φ β env H n fs,n0<=n/\(∀i,i<n0->β i=β0 i)/\env.length=env0/\RelF w0 Φ0 Φ n β env H fs a w/\(∀d e z,fs=some (d,e,z)->∀i∈bB listed h,∀lo,los[i]? =some lo->lo.dst≠some d)/\xds P K ((bB listed h).map λi=>los.getD i ⟨none,.mv (.c .unk),none⟩) [(H,n)] [] env H n fs)->
  wpAny P .any ops.toArray Q fuel listed a w:=by
 have hll:=aGp hlow;have hlh:h<=los.length:=(by simp only[hT,x5]at hok;exact Nat.le_of_ble_eq_true hok.1.2);have hon:∀j o,ops[j]? =some o->∀e∈o.after,Region.binds .any e=true->e.on<j:=(by intro j o hj e he hb;have hjl:=(n9.1 hj).1;simp only[hT,x5,w5,f8]at hok;have h1:=(hok.2 j (by omega)).1.1;rw[hj]at h1;simp only[Array.all_eq_true_iff_forall_mem]at h1;have h2:=h1 e he;simpa only[hb,Bool.not_true,qQU,decide_eq_true_eq]using h2);have htl0:∀j,h<=j->j<ops.length->∀i,i<j->i∈uF ops j [j]\/aEm ops los h i=true:=(by intro j hj hjl i hij;simp only[hT,x5,w5,f8]at hok;have h1:=(hok.2 j (by omega)).1.2;rw[if_pos hj]at h1;simp only[w5,f8,r9,List.contains_iff_mem]at h1;exact h1 i hij);have htl:∀j,h<=j->j<ops.length->∀i,h<=i->i<j->i∈uF ops j [j]:=(by intro j hj hjl i hi hij;refine(htl0 j hj hjl i hij).resolve_right λhl=>?_;simp only[aEm,x5,Nat.blt,Nat.ble_eq]at hl;omega);intro fuel;induction fuel with
 |zero=>
  intro listed a w hsz hc hf htail ⟨Φ,β,env,H,n,fs,k1,k2,k3,k4,k5,k6⟩;have hnil:bB listed ops.length=[]:=m6.1 (by omega);have hall:∀i,i<ops.length->listed.getD i true=true:=λi hi=>by(cases e:listed.getD i true with|true=>rfl|false=>have:i∈bB listed ops.length:=(by simp only[bB,qZJ,f8,hi,e];exact⟨trivial,rfl⟩);rw[hnil]at this;cases this)
  have hhl:ops.length<=h:=qJK λhlt=>by have:=htail h (k9 _) hlt;rw[hall h hlt]at this;cases this
  have hu:bB listed h=[]:=(by rw[bB,List.filter_eq_nil_iff];intro i hi;simp only[f8]at hi;have:listed.getD i true=true:=hall i (by omega);simp[this]);rw[hu]at k6;have:=hend env H n fs Φ β a w k1 k2 k4 k6;rw[List.drop_eq_nil_of_le hhl]at this;refine⟨?_,this⟩;rw[List.eq_nil_iff_forall_not_mem];intro j hj;obtain⟨h1,o,h2,_⟩:=mem_ready.1 hj;have hjl:j<ops.length:=(by simpa using(Array.getElem?_eq_some_iff.1 h2).1);rw[hall j hjl]at h1;cases h1
 |succ fuel ih=>
  intro listed a w hsz hc hf htail ⟨Φ,β,env,H,n,fs,k1,k2,k3,k4,k5,k6⟩;have hready:∀j o,ops[j]? =some o->(∀e∈o.after,Region.binds .any e=true->listed.getD e.on false=true)->∀i,i<j->listed.getD i true=false->sB ops j i=false:=(by intro j o hj hr i _ hi;(cases e:sB ops j i with|false=>rfl|true=>obtain⟨ed,h1,rfl,h3⟩:=vK hj e;have:=aEg (hr ed h1 h3);rw[hi]at this;cases this));by_cases hB:∃j,j∈Region.ready .any ops.toArray listed/\h<=j
  · obtain⟨j,hj,hhj⟩:=hB
    obtain⟨hjun,o,ho,hr⟩:=mem_ready.1 hj;have ho':ops[j]? =some o:=(by simpa using ho);have hjl:j<ops.length:=(n9.1 ho').1;refine bUq hlow hok hon htl hQ hend (fuel+1) listed a w hsz hc hf htail (λi hi=>?_) ⟨Φ,β,env,H,n,fs,k1,k2,k4,k5,k6⟩;rcases htl0 j hhj hjl i (by omega)with h1|h1
    · rcases wK hc j [j] (λk' hk' i' he=>by
       rw[u9]at hk';subst hk';obtain⟨ed,h3,rfl,h4⟩:=vK ho' he;exact hr ed h3 h4) i h1 with h2|h2
      {rw[u9]at h2;omega};{exact .inl h2}
    {exact .inr h1}
  refine⟨λhnone=>?_,λj hj=>?_⟩
  ·--nothing is ready:all is done
    have hall:∀i,i<ops.length->listed.getD i true=true:=by
     intro i;induction i using Nat.strongRecOn with
     |_ i ihi=>intro hi;(cases e:listed.getD i true with|true=>rfl|false=>exfalso;have hmem:i∈Region.ready .any ops.toArray listed:=(by rw[mem_ready];refine⟨e,ops[i],by simp[hi],λed hed hb=>?_⟩;simp only[hT,x5,w5,f8]at hok;have h1:=(hok.2 i (by omega)).1.1;rw[y9 hi]at h1;simp only[Array.all_eq_true_iff_forall_mem]at h1;have h2:=h1 ed hed;simp only[hb,Bool.not_true,qQU,decide_eq_true_eq]at h2;have h3:=ihi ed.on h2 (by omega);have hlt:ed.on<listed.size:=(by omega);simpa[Array.getD,hlt]using h3);rw[hnone]at hmem;cases hmem)
    have hhl:ops.length<=h:=qJK λhlt=>by have:=htail h (k9 _) hlt;rw[hall h hlt]at this;cases this
    have hu:bB listed h=[]:=(by rw[bB,List.filter_eq_nil_iff];intro i hi;simp only[f8]at hi;have:listed.getD i true=true:=hall i (by omega);simp[this]);rw[hu]at k6;have:=hend env H n fs Φ β a w k1 k2 k4 k6;rw[List.drop_eq_nil_of_le hhl]at this;exact this
  · obtain⟨hjun,o,ho,hr⟩:=mem_ready.1 hj
    have ho':ops[j]? =some o:=(by simpa using ho);have hjl:j<ops.length:=(n9.1 ho').1;obtain⟨lo,hlo,hlow1⟩:=aMt hlow j o ho';have hset:(listed.setIfInBounds j true).size=ops.length:=(by simp[hsz]);have hclosed:yQ ops (listed.setIfInBounds j true):=(by intro k ok hk hkd e he hb;by_cases hkj:k=j;{subst hkj;rw[ho']at hk;cases hk;exact getD_set_true (hr e he hb)};{rw[getD_set_ne true (λe=>hkj e.symm)]at hkd;exact getD_set_true (hc k ok hk hkd e he hb)});obtain⟨apre,apost,as1,as2,as3⟩:=oE hjl hjun (by omega);have hfuel:(bB (listed.setIfInBounds j true) ops.length).length<=fuel:=(by rw[as3];rw[as1]at hf;simp only[y5,y7]at hf ⊢;omega);by_cases hjh:j<h
    · obtain⟨pre,post,s1,s2,s3⟩:=oE hjh hjun (by omega)
      rw[s1,List.map_append,m5]at k6;have hgj:los.getD j ⟨none,.mv (.c .unk),none⟩=lo:=(by simp[x8,hlo]);rw[hgj]at k6;have hcond:∀i∈pre.map (λi=>los.getD i ⟨none,.mv (.c .unk),none⟩),i.free lo=true/\lo.free i=true/\(i.op.chain&&lo.op.chain)=false:=(by intro li hli;obtain⟨i,hi,rfl⟩:=List.mem_map.1 hli;obtain⟨hij,hiu⟩:=s2 i hi;rcases bJb hok hij (by omega)with h1|⟨x,y,hx,hy,h2,h3,h4⟩;{rw[hready j o ho' hr i hij hiu]at h1;cases h1};{rw[hlo]at hy;cases hy;have hgi:los.getD i ⟨none,.mv (.c .unk),none⟩=x:=(by simp[x8,hx]);rw[hgi];refine⟨h2,h3,?_⟩;(cases e:(x.op.chain&&lo.op.chain)with|false=>rfl|true=>simp only[x5]at e;have:=bJy hok hc j o ho' (by omega) hr (by simp[aCf,hlo,e.2]) i hij (by simp[aCf,hx,e.1]);rw[hiu]at this;cases this)});obtain⟨x,H',n',fs',t1,t2,t3⟩:=bTn _ [(H,n)] [] env H n fs hcond (by simp) (bUh k4.rel.env (jE hlow1).1) k6;have hx:xds P K ((pre++post).map λi=>los.getD i ⟨none,.mv (.c .unk),none⟩) [(H',n')] [] (put env lo.dst x) H' n' fs':=(by rw[List.map_append];(cases hm:eJ env lo with|true=>exact rK (λh0 hh=>by simp only[u9]at hh;subst hh;simp) (λ_ hk=>hk) (t2 hm).2.2|false=>obtain⟨rfl,rfl,_,t4⟩:=t3 hm;exact t4));have hmemj:j∈bB listed h:=(by rw[s1];simp);refine bKn ho' hlow1 k4 t1 (λd e z hfs=>k5 d e z hfs j hmemj lo hlo) (λhf d hd=>by rw[k3];exact hdst lo (List.mem_of_getElem? hlo) hf d hd) λv Φ' β' w' g1 g2 g3 g4=>?_;have hoj:(o.dst:Option Nat)=lo.dst:=(jE hlow1).2.2.1.symm;refine ih (listed.setIfInBounds j true) _ w' hset hclosed hfuel (λk hk hkl=>?_) ⟨Φ',β',put env lo.dst x,H',n',fs',qQQ k1 g1,λi hi=>(g2 i (o7 hi k1)).trans (k2 i hi),by rw[<-k3];cases lo.dst<;>simp[put],g4,?_,?_⟩;{rw[getD_set_ne true (by omega)];exact htail k hk hkl}
      · intro d e z hfs i hi li hli
        rw[s3]at hi;have hi0:i∈bB listed h:=(by rw[s1];rcases p7.1 hi with h1|h1;{exact List.mem_append_left _ h1};{exact List.mem_append_right _ (m8 _ h1)});cases hf1:hY env lo with
        |false=>obtain⟨e1,_⟩:=t1.fresh hf1;rw[e1]at hfs;exact k5 d e z hfs i hi0 li hli
        |true=>
         have hd:lo.dst=some d:=by simp only[Stp]at t1;split at t1;{split at t1;{rename_i hop;simp[hY,lR,hop]at hf1};{split at t1;{rename_i d' hd';rw[t1.2.2.2]at hfs;cases hfs;exact hd'};{exact t1.elim}};{rename_i a1 a2;simp only[hY,x5]at hf1;cases hop:lo.op<;>rw[hop]at hf1<;>simp[lR]at hf1;exact(a2 _ _ hop).elim}};{rename_i hg;simp[hY,hg]at hf1};{exact t1.elim}
         have hij:i≠j:=by
          rintro rfl
          rw[<-s3]at hi;simp only[bB,qZJ,u0]at hi;have:(listed.setIfInBounds i true).getD i true=true:=(by simp[Array.getD,show i<listed.size by omega]);rw[this]at hi;cases hi.2
         have hil:i<los.length:=(n9.1 hli).1;have hiun:listed.getD i true=false:=(by simp only[bB,qZJ,u0]at hi0;exact hi0.2);rcases Nat.lt_or_ge i j with hlt|hge;{obtain⟨p,q,hp,hq,h2⟩:=bEp hok hlt (by omega);rw[hli]at hp;cases hp;rw[hlo]at hq;cases hq;exact λe2=>h2 d e2 hd};{obtain⟨p,q,hp,hq,h2⟩:=bEp hok (show j<i by omega) hil;rw[hli]at hq;cases hq;rw[hlo]at hp;cases hp;exact h2 d hd}
      {rw[s3];exact hx}
    {exact absurd ⟨j,hj,by omega⟩ hB}
def aCw(l:Nat):List LOper->Bool
 |[]=>true
 |o::os=>(match lR o.op,o.dst with|true,some d=>decide (d<l)|_,_=>true)&&aCw l os
theorem aPl{l:Nat}:∀{os:List LOper},aCw l os=true->∀lo∈os,lR lo.op=true->∀d,lo.dst=some d->d<l
 |[],_,lo,hm,_,_,_=>by cases hm
 |o::os,h,lo,hm,hf,d,hd=>by simp only[aCw,x5]at h;rcases g8.1 hm with rfl|hm;{have:=h.1;rw[hf,hd]at this;simpa using this};{exact aPl h.2 lo hm hf d hd}
set_option maxHeartbeats 0
theorem Aw.regd{Q:Post}{env:List AV}{H:Heap}{n m:Nat}{head tail:List LOper}(hb:aCw env.length (head++tail)=true)(h:xds P (bKg P tail Q) head [(H,n)] [] env H n none):Aw P m (.regd head tail) Q env H n:=by
 intro cc hcc w0 Φ β a w hm hR;cases cc<;>simp only[eN,w7.injEq,reduceCtorEq]at hcc
 case region id os draw=>
  obtain⟨ops,rfl⟩:∃l:List Oper,os=l.toArray:=⟨os.toList,by simp⟩;have key:∀(los:List LOper) (k:Nat),bX P ops ops=some los->hT ops los k=true->head=los.take k->tail=los.drop k->draw=true->¬P.follows .mixedOrders=false->(Code.region id ops.toArray draw).wp P (After w0 Φ m β Q) a w:=(by intro los k g1 g2 e1 e2 e3 g3;subst e1;subst e2;subst e3;rw[List.take_append_drop]at hb;have hR':Rel w0 Φ n β env H a {w with drawn:=w.drawn+1}:=hR.later (Below.drew (Below.refl _ _));obtain⟨t1,t2⟩:=aAc k ops los g1;have hll:=aGp g1;have hk:k<=los.length:=(by simp only[hT,x5]at g2;exact Nat.le_of_ble_eq_true g2.1.2);have hund:bB (Array.replicate ops.toArray.size false) k=u7 k:=(by unfold bB;rw[List.filter_eq_self];intro i hi;simp only[f8]at hi;simp[Array.getD,show i<ops.length by omega]);have hmap:((u7 k).map λi=>los.getD i ⟨none,.mv (.c .unk),none⟩)=los.take k:=(by apply List.ext_getElem?;intro i;simp only[List.getElem?_map,List.getElem?_take];by_cases hi:i<k;{rw[List.getElem?_range hi,if_pos hi];simp[x8,show i<los.length by omega]};{rw[if_neg hi];simp[hi]});refine wp_region_any (by simpa using g3) ?_;refine bWa (P:=P) (w0:=w0) (Φ0:=Φ) (n0:=m) (β0:=β) (K:=bKg P (los.drop k) Q) (env0:=env.length) g1 g2 (λd v c a w ⟨o,_,_,_,_,_,ho,_⟩=>by cases ho) (aPl hb) ?_ _ _ a _ (by simp) ?_ ?_ ?_ ⟨Φ,β,env,H,n,none,hm,λ_ _=>rfl,rfl,⟨hR',Fz.le_refl Φ,trivial⟩,(λ_ _ _ e=>nomatch e),?_⟩;{intro env2 H2 n2 fs2 Φ2 β2 a2 w2 k1 k2 k3 k4;have fin:∀Φ3 β3 env3 H3 n3,m<=n3->(∀i,i<m->β3 i=β i)->Φ.le Φ3->Rel w0 Φ3 n3 β3 env3 H3 a2 w2->eX P (Q .normal) (los.drop k) env3 H3 n3->wpList P ops.toArray (After w0 Φ m β Q) (ops.drop k) a2 w2:=(by intro Φ3 β3 env3 H3 n3 c1 c2 c3 c4 c5;exact aBr (ops:=ops) (ops.drop k) _ Φ3 n3 β3 env3 H3 a2 w2 t2 c4 c5 (Q:=After w0 Φ m β Q) λenv' H' n' Φ' β' a' w' d1 d2 d3 d4 d5=>⟨.normal,env',H',n',Φ',β',rfl,d1,qQQ c1 d2,λi hi=>(d3 i (o7 hi c1)).trans (c2 i hi),c3.trans d4,d5⟩);(cases fs2 with|none=>exact fin Φ2 β2 env2 H2 n2 k1 k2 k3.le k3.rel k4|some p=>obtain⟨d,e,z⟩:=p;obtain⟨Φ3,β3,c1,c2,c3⟩:=k3.link;exact fin Φ3 β3 _ _ _ (Nat.le_succ_of_le k1) (λi hi=>(c2 i (o7 hi k1)).trans (k2 i hi)) c1 c3 k4)};{intro j o hj hjd;have hjl:j<ops.length:=(n9.1 hj).1;simp[Array.getD,hjl]at hjd};{simp only[List.size_toArray];unfold bB;exact qQQ (List.length_filter_le _ _) (by simp)};{intro j _ hj;simp[Array.getD,hj]};{rw[hund,hmap];exact h});unfold oZ at hcc;split at hcc
  · rename_i los g1
    split at hcc;{cases hcc}
    · rename_i hd
      obtain rfl:draw=true:=(by cases draw<;>simp_all);split at hcc;{cases hcc}
      · rename_i hmo
        split at hcc;{cases hcc}
        · split at hcc
          {cases hcc}
          · split at hcc
            {rename_i hok;cases hcc;exact key los (aSv ops los los.length) (by simpa using g1) (by simpa using hok) rfl rfl rfl hmo}
            · repeat' (split at hcc)
              all_goals cases hcc
  {cases hcc}
 case seq=>split at hcc<;>simp at hcc
 case cond=>split at hcc<;>simp at hcc
 all_goals simp at hcc
end
section
variable {P : Program} {H : Heap} {n : Nat}
theorem Clo.clean0{Φ:Fz}{n':Nat}{β β':Spots}:∀{x y:AV} {v:Value},Clo [] x y->RV Φ n β x v->RV Φ n' β' y v:=by
 have dead:∀r π,Heap.get [] r π=none:=λr π=>by have h:Heap.get [] r []=none:=rfl;simpa using eO h π
 intro x y v h;refine Clo.rec (motive_1:=λx y _=>∀v,RV Φ n β x v->RV Φ n' β' y v) (motive_2:=λxs ys _=>∀vs,RVs Φ n β xs vs->RVs Φ n' β' ys vs) ?_ ?_ ?_ ?_ ?_ ?_ ?_ ?_ ?_ ?_ ?_ h v;{intro v h;simpa only[RV]using h};{intro v h;simp only[RV]at h ⊢;exact⟨none,0,[],h,k9 _,m9 _,.inl rfl,by simp[RVs]⟩};{intro v h;simp only[RV]at h ⊢;obtain⟨s,rfl⟩:=h;exact⟨s,0,[],rfl,k9 _,m9 _,.inl rfl,by simp[RVs]⟩};{intro b v h;simpa only[RV]using h};{intro k z v h;simpa only[RV]using h};{intro m m' cs cs' hm _ ih v h;subst hm;simp only[RV]at h ⊢;obtain⟨s,cap,vs,h1,h2,h3,h4,h5⟩:=h;exact⟨s,cap,vs,h1,h2,h3,h4,ih vs h5⟩};{intro x hx v h;exact RV.clean (λ_ _ h=>h) hx h};{intro r π o m m' sz t cs hr;rw[dead]at hr;cases hr};{intro vs us _ ih v h;simp only[RV]at h ⊢;obtain⟨arr,h1,h2⟩:=h;exact⟨arr,h1,ih _ h2⟩};{intro vs h;simpa only[RVs]using h};{intro v u vs us _ _ ih1 ih2 ws h;simp only[RVs]at h ⊢;obtain⟨v',vs',e,o,g1,g2⟩:=h;exact⟨v',vs',e,o,ih1 _ g1,ih2 _ g2⟩}
theorem Cloz.clean0{Φ:Fz}{n':Nat}{β β':Spots}:∀{xs ys:List AV} {vs:List Value},Cloz [] xs ys->RVt Φ n β xs vs->RVt Φ n' β' ys vs
 |[],ys,vs,h,k=>by simp only[Cloz]at h;subst h;simpa only[RVt]using k
 |x::xs,ys,vs,h,k=>by simp only[Cloz]at h;obtain⟨y,ys',rfl,h1,h2⟩:=h;simp only[RVt]at k ⊢;obtain⟨v,vs',e,k1,k2⟩:=k;exact⟨v,vs',e,h1.clean0 k1,h2.clean0 k2⟩
theorem Inl.of_fn0{f:FuncId}{args args':List AV}{r:AV}(hc:Cloz [] args args')(hp:Fn P f args' r)(hr:r.noRef=true):
 Inl P f args H n (bM n r).1 ((bM n r).2.1++H) (bM n r).2.2:=by
 intro Φ w β vs hK hH hv;have hv':RVt (Φ.all w false) 0 (λ_ _=>⟨false,0,0,0⟩) args' vs:=(by have h1:RVt Φ 0 (λ_ _=>⟨false,0,0,0⟩) args' vs:=hc.clean0 hv;exact h1.moreT Fz.le_all.tle (k9 _) λ_ _=>rfl);obtain⟨u1,u2,u3⟩:=bBm (d:=n) (n:=0) hr;rw[Nat.zero_add]at u1 u2 u3;refine(hp (Φ.all w false) w _ vs hK.all RH.empty hv').mono λe w' ⟨v,Φ1,β1,he,g1,g2,g3,g4,g5,g6,g7⟩=>?_;generalize hΦ2:(λb=>match Φ1 b with|some (true,o)=>some (true,o)|_=>Φ b:Fz)=Φ2;have hup:∀b x,Φ b=some x->Φ1 b=some x:=λb x h=>g3 b x (Fz.le_all b x h);have h2:∀b,Φ2 b=match Φ1 b with|some (true,o)=>some (true,o)|_=>Φ b:=λb=>by rw[<-hΦ2]
 have hle:Φ.le Φ2:=λb x h=>by rw[h2,hup b x h];obtain⟨f,o⟩:=x;cases f;{exact h};{rfl}
 have htle:Φ1.tle Φ2:=λb o h=>by rw[h2,h]
 have hK2:Keep Φ2 w':=λb x h=>by rw[h2]at h;split at h;{rename_i o ho;cases h;exact g4 b _ ho};{exact g4 b x (hup b x h)}
 refine⟨v,Φ2,λi=>if i<n then β i else β1 (i-n),he,by rw[<-u3];omega,λi hi=>by simp[hi],hle,hK2,?_,?_,g7⟩;{rw[<-u1,<-u3,Nat.add_comm];exact RV.up htle (λi _=>by simp[show¬i+n<n by omega]) g5}
 · rw[<-u2,<-u3,Nat.add_comm]
   have hall:∀r π t,H.get r π=some t->(β r π).ex=true->∃o,w.heap[(β r π).b]? =some o/\Φ (β r π).b=none/\Φ1 (β r π).b=some (false,o):=λr π t hr hx=>by obtain⟨k1,cur,k2,_⟩:=hH.own hr hx;exact⟨_,k2,k1,g3 _ _ (by simp[Fz.all,k1,k2])⟩
   refine RH.join hH g6 (λr π t hr hx=>?_) hle.tle (λxs vs h _=>h.moreT htle (k9 _) λ_ _=>rfl) λb hb=>?_;{obtain⟨o,k1,k2,k3⟩:=hall r π t hr hx;refine⟨by simp[k3],by rw[k1];exact g4 _ _ k3,?_⟩;rw[h2,k3];exact k2};{rw[h2,hb];(cases e:Φ b with|none=>rfl|some x=>rw[hup b x e]at hb;cases hb)}
end
end Go.Proofs.YtcgggihjcelmhaaGreat
