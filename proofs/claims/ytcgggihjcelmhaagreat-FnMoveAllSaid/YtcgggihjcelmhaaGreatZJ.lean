/- The machine in which the program is read. No program is named here. -/
import Derived.WalkKit
import Derived.ProofKit
import Derived.Carry
import Derived.DataReads
import Derived.Deep.Slices
import Derived.Deep.MidRow
import Derived.OpenShut
import Derived.Deep.Quiet
import Derived.Laws.OwnMore
import Derived.Maps.AppendAt
import Derived.ArgAppend
import Derived.Laws.StructEq
import Derived.Laws.CopyOwn
import Derived.StillTail
namespace Go.Proofs.YtcgggihjcelmhaaGreat
open Bool renaming and_eq_true → x5, not_eq_true' → u0, false_eq_true → o8
open List renaming getD → x8, all_eq_true → w5, all_cons → y4, length_append → y5, getElem?_eq_getElem → y9, range → u7, getElem?_append_right → d9, getElem?_append_left → e7, length_nil → l7, map_cons → m5, length_eq_zero_iff → m6, length_take → m7, cons_append → n7, getElem?_eq_some_iff → n9, length_drop → p8, nil_append → r6, append_nil → r8, length_set → t7, getElem?_drop → t9, getElem?_take → qQJ, append_assoc → qQY, eq_nil_or_concat → qZV, concat_eq_append → qZY
open Nat renaming le_refl → k9, lt_succ_self → y8, le_succ → l9, add_assoc → m4, zero_le → m9, lt_of_lt_of_le → o7, zero_add → p9, le_trans → qQQ, mul_le_mul_right → qQZ, add_mul → qZQ, add_zero → qZU
open Option renaming some → w7, map_eq_some_iff → w9, isSome_iff_exists → y3
set_option linter.all false
open Go.ChangeShapes Go.WideShapes Go.ChangeAt Go.RowKit
inductive Dat where
 |int (n:Int)
 |u8 (n:Int)
 |bool (b:Bool)
 |sl (sz n:Nat) (xs:List Dat)
def RowW(w:World)(s:Option Addr)(vs:List Value):Prop:=vs=[]\/∃b o,s=some ⟨b,o,none⟩/\b<w.heap.size/\∀i,i<vs.length->w.cell? ⟨b,o+i,none⟩=some (vs.getD i undef)
mutual
def Rep(w:World):Dat->Value->Prop
 | .int n,v=>v= .int .i64 n/\-9223372036854775808<=n/\n<=9223372036854775807
 | .u8 n,v=>v= .int .u8 n/\0<=n/\n<=255
 | .bool b,v=>v= .bool b
 | .sl sz n xs,v=>∃s cap vs,v= .slice s n cap/\n<=cap/\cap<=9223372036854775807/\xs.length=n*sz/\RowW w s vs/\Reps w xs vs
def Reps(w:World):List Dat->List Value->Prop
 |[],vs=>vs=[]
 |x::xs,vs=>∃v vs',vs=v::vs'/\Rep w x v/\Reps w xs vs'
end
theorem RowW.below{w w':World}{s:Option Addr}{vs:List Value}(h:RowW w s vs)(hb:Below w.heap.size w w'):RowW w' s vs:=by rcases h with h|⟨b,o,e,hlt,hc⟩;{exact .inl h};{exact .inr ⟨b,o,e,o7 hlt hb.size,λi hi=>(hb.cell (p:=⟨b,o+i,none⟩) hlt).trans (hc i hi)⟩}
mutual
theorem Rep.below{w w':World}(hb:Below w.heap.size w w'):∀{d:Dat} {v:Value},Rep w d v->Rep w' d v
 | .int _,_,h=>by simpa only[Rep]using h
 | .u8 _,_,h=>by simpa only[Rep]using h
 | .bool _,_,h=>by simpa only[Rep]using h
 | .sl _ _ _,_,h=>by simp only[Rep]at h ⊢;obtain⟨s,cap,vs,h1,h2,h3,h4,h5,h6⟩:=h;exact⟨s,cap,vs,h1,h2,h3,h4,h5.below hb,Reps.below hb h6⟩
theorem Reps.below{w w':World}(hb:Below w.heap.size w w'):∀{ds:List Dat} {vs:List Value},Reps w ds vs->Reps w' ds vs
 |[],_,h=>by simpa only[Reps]using h
 |_::_,_,h=>by simp only[Reps]at h ⊢;obtain⟨v,vs',e,h1,h2⟩:=h;exact⟨v,vs',e,Rep.below hb h1,Reps.below hb h2⟩
end
theorem Reps.length{w:World}:∀{ds:List Dat} {vs:List Value},Reps w ds vs->vs.length=ds.length
 |[],_,h=>by simp only[Reps]at h;simp[h]
 |_::_,_,h=>by simp only[Reps]at h;obtain⟨v,vs',rfl,_,h2⟩:=h;simp[Reps.length h2]
theorem Reps.append{w:World}:∀{ds es:List Dat} {vs us:List Value},Reps w ds vs->Reps w es us->Reps w (ds++es) (vs++us)
 |[],_,_,_,h,k=>by simp only[Reps]at h;subst h;simpa using k
 |_::_,_,_,_,h,k=>by simp only[Reps,n7]at h ⊢;obtain⟨v,vs',rfl,h1,h2⟩:=h;exact⟨v,vs'++_,rfl,h1,Reps.append h2 k⟩
inductive Sh where
 |int
 |u8
 |bool
 |sl (sz:Nat) (es:List Sh)
mutual
def Fit:Sh->Dat->Prop
 | .int,d=>∃n,d= .int n
 | .u8,d=>∃n,d= .u8 n
 | .bool,d=>∃b,d= .bool b
 | .sl sz es,d=>∃rows:List (List Dat),d= .sl sz rows.length rows.flatten/\∀r∈rows,Fits es r
def Fits:List Sh->List Dat->Prop
 |[],ds=>ds=[]
 |s::ss,ds=>∃d ds',ds=d::ds'/\Fit s d/\Fits ss ds'
end
theorem Fits.append:∀{ss ts:List Sh} {ds es:List Dat},Fits ss ds->Fits ts es->Fits (ss++ts) (ds++es)
 |[],_,_,_,h,k=>by simp only[Fits]at h;subst h;simpa using k
 |_::_,_,_,_,h,k=>by simp only[Fits,n7]at h ⊢;obtain⟨d,ds',rfl,h1,h2⟩:=h;exact⟨d,ds'++_,rfl,h1,Fits.append h2 k⟩
theorem Fits.length:∀{ss:List Sh} {ds:List Dat},Fits ss ds->ds.length=ss.length
 |[],_,h=>by simp only[Fits]at h;simp[h]
 |_::_,_,h=>by simp only[Fits]at h;obtain⟨d,ds',rfl,_,h2⟩:=h;simp[Fits.length h2]
def uD(P:Program)(sh:TypeId->Option (List Sh)):Nat->List Field->Option (List Sh)
 |_,[]=>some []
 |off,f::fs=>
  if f.offset=off then
   match sh f.type with
   |some s=>if s.length=P.cellsOf f.type then(uD P sh (off+P.cellsOf f.type) fs).map (s++·)else none
   |none=>none
  else none
def yO(P:Program):Nat->TypeId->Option (List Sh)
 |0,_=>none
 |n+1,t=>
  match P.underlying t with
  |some .bool=>some [.bool]
  |some (.int .i64)=>some [.int]
  |some (.int .u8)=>some [.u8]
  |some (.slice e)=>
   match yO P n e with
   |some es=>if es.length=P.cellsOf e/\0<P.cellsOf e then some [.sl (P.cellsOf e) es]else none
   |none=>none
  |some (.struct fs)=>
   match uD P (yO P n) 0 fs.toList with
   |some ss=>if ss.length=P.cellsOf t then some ss else none
   |none=>none
  |_=>none
section
variable {H : Type} {enc : TypeId × Value → H} {P : Program} {w : World} {spare : Nat → Bool} {held : Bool}
theorem aKc{n f:Nat}(ih:∀t ss,yO P n t=some ss->∀cs (x:DataW H×List MemPlace),DataW.trod enc P w 0 spare held f t cs=some x->∃ds,Reps w ds cs/\Fits ss ds):
 ∀(fs:List Field) (off:Nat) (ss:List Sh) (cs:List Value) (xs:List (DataW H×List MemPlace)),uD P (yO P n) off fs=some ss->
  fs.mapM (λg=>DataW.trod enc P w 0 spare held f g.type ((cs.drop g.offset).take (P.cellsOf g.type)))=some xs->cs.length=off+ss.length->
  ∃ds,Reps w ds (cs.drop off)/\Fits ss ds
 |[],off,ss,cs,xs,h,_,hl=>by simp only[uD,w7.injEq]at h;subst h;refine⟨[],?_,by simp[Fits]⟩;simp only[Reps];exact List.drop_eq_nil_of_le (by simp at hl;omega)
 |g::fs,off,ss,cs,xs,h,hx,hl=>by
  unfold uD at h;split at h
  · rename_i ho
    split at h
    · rename_i s hs
      split at h
      · rename_i hsl
        obtain⟨ss',hss,rfl⟩:=w9.1 h;have h0:=mapM_some_get hx 0 g rfl;obtain⟨x0,hx0⟩:∃x0,DataW.trod enc P w 0 spare held f g.type ((cs.drop g.offset).take (P.cellsOf g.type))=some x0:=(by have hl0:=mapM_some_length hx;rw[h0];(cases xs with|nil=>simp at hl0|cons a b=>exact⟨a,rfl⟩));obtain⟨d0,r0,f0⟩:=ih _ _ hs _ _ hx0
        have hx':fs.mapM (λg=>DataW.trod enc P w 0 spare held f g.type ((cs.drop g.offset).take (P.cellsOf g.type)))=some xs.tail:=by
         rw[List.mapM_cons]at hx;simp only[hx0,Option.bind_eq_bind,Option.bind_some]at hx;cases hm:fs.mapM (λg=>DataW.trod enc P w 0 spare held f g.type ((cs.drop g.offset).take (P.cellsOf g.type)))with
         |none=>rw[hm]at hx;simp at hx
         |some ys=>rw[hm]at hx;simp at hx;subst hx;rfl
        obtain⟨d1,r1,f1⟩:=aKc ih fs (off+P.cellsOf g.type) ss' cs xs.tail hss hx' (by simp at hl;omega);refine⟨d0++d1,?_,f0.append f1⟩;have e:cs.drop off=(cs.drop off).take (P.cellsOf g.type)++cs.drop (off+P.cellsOf g.type):=(by rw[<-List.drop_drop];exact(List.take_append_drop _ _).symm);rw[e];rw[ho]at r0;exact r0.append r1
      {cases h}
    {cases h}
  {cases h}
theorem bOi{a:Addr}{n:Nat}{cs:List Value}(h:w.cells? 0 a n=some cs):cs.length=n/\∀i,i<n->w.cell? (a.add i)=some (cs.getD i undef):=by unfold World.cells? at h;rw[if_pos (m9 _)]at h;have hl:=mapM_some_length h;simp at hl;refine⟨hl,λi hi=>?_⟩;have:=mapM_some_get h i i (by simp[hi]);rw[this,x8,y9 (by omega)];rfl
theorem bQc{a:Addr}{sz:Nat}{es:List Sh}:∀(len:Nat),(∀i,i<len->∃ci,w.cells? 0 (a.add (i*sz)) sz=some ci/\∃row,Reps w row ci/\Fits es row)->
 ∃(rows:List (List Dat)) (vs:List Value),rows.length=len/\Reps w rows.flatten vs/\(∀r∈rows,Fits es r)/\vs.length=len*sz/\∀j,j<len*sz->w.cell? (a.add j)=some (vs.getD j undef)
 |0,_=>⟨[],[],rfl,by simp[Reps],by simp,by simp,λj hj=>by omega⟩
 |len+1,h=>by obtain⟨rows,vs,h1,h2,h3,h4,h5⟩:=bQc len (λi hi=>h i (by omega));obtain⟨ci,c1,row,c2,c3⟩:=h len (by omega);obtain⟨g1,g2⟩:=bOi c1;refine⟨rows++[row],vs++ci,by simp[h1],by simpa using h2.append c2,λr hr=>?_,by rw[y5,h4,g1,Nat.succ_mul],λj hj=>?_⟩;{rcases List.mem_append.1 hr with hr|hr;{exact h3 r hr};{simp at hr;subst hr;exact c3}};{rw[Nat.succ_mul]at hj;by_cases hlt:j<len*sz;{rw[h5 j hlt];simp only[x8];rw[e7 (by omega)]};{have e:=g2 (j-len*sz) (by omega);rw[Go.Deep.add_add]at e;rw[show len*sz+(j-len*sz)=j by omega]at e;rw[e];simp only[x8];rw[d9 (by omega),h4]}}
theorem bMg{a:Addr}{vs:List Value}(h:∀j,j<vs.length->w.cell? (a.add j)=some (vs.getD j undef)):RowW w (some a) vs:=by by_cases hn:vs=[];{exact .inl hn};{right;have hp:0<vs.length:=(by cases vs<;>simp_all);obtain⟨b,off,spot⟩:=a;have hspot:spot=none:=(by simpa[Addr.add]using World.cell?_spot (h 0 hp));subst hspot;have h0:=h 0 hp;refine⟨b,off,rfl,?_,λi hi=>?_⟩;{simp only[Addr.add]at h0;unfold World.cell? at h0;(cases hh:w.heap[b]? with|none=>simp[hh]at h0|some o=>exact(Array.getElem?_eq_some_iff.1 hh).1)};{have:=h i hi;rwa[Addr.add_mid]at this}}
theorem aAh:∀(n f:Nat) (t:TypeId) (ss:List Sh),yO P n t=some ss->∀(cs:List Value) (x:DataW H×List MemPlace),DataW.trod enc P w 0 spare held f t cs=some x->
 ∃ds,Reps w ds cs/\Fits ss ds
 |0,_,_,_,h,_,_,_=>by simp[yO]at h
 |n+1,0,_,_,_,_,_,hx=>by simp[DataW.trod]at hx
 |n+1,f+1,t,ss,h,cs,x,hx=>by unfold yO at h;split at h;{rename_i ht;simp only[w7.injEq]at h;subst h;unfold DataW.trod at hx;rw[ht]at hx;split at hx<;>simp_all;rename_i b;exact⟨[.bool b],by simp[Reps,Rep],by simp[Fits,Fit]⟩};{rename_i ht;simp only[w7.injEq]at h;subst h;unfold DataW.trod at hx;rw[ht]at hx;split at hx<;>simp_all;rename_i n e;subst e;have hb:=bounds_i64 hx.1.2;exact⟨[.int n],by simp[Reps,Rep,hb],by simp[Fits,Fit]⟩};{rename_i ht;simp only[w7.injEq]at h;subst h;unfold DataW.trod at hx;rw[ht]at hx;split at hx<;>simp_all;rename_i n e;subst e;have hb:=bounds_u8 hx.1.2;exact⟨[.u8 n],by simp[Reps,Rep,hb],by simp[Fits,Fit]⟩};{rename_i e ht;split at h;{rename_i es hes;split at h;{rename_i hsz;simp only[w7.injEq]at h;subst h;rcases DataW.trod_slice ht hx with⟨rfl,_⟩|⟨a,len,cap,elems,rest,m,hm,rfl,_,_,hl,hc,hel,hget,_,_⟩;{refine⟨[.sl (P.cellsOf e) 0 []],?_,?_⟩;{simp only[Reps,Rep];exact⟨_,_,rfl,⟨none,0,[],rfl,k9 _,by omega,by simp,.inl rfl,rfl⟩,rfl⟩};{simp only[Fits,Fit];exact⟨_,_,rfl,⟨[],rfl,by simp⟩,rfl⟩}};{have hm':m=f:=(by omega);subst hm';have key:∀i,i<len->∃ci,w.cells? 0 (a.add (i*P.cellsOf e)) (P.cellsOf e)=some ci/\∃row,Reps w row ci/\Fits es row:=(by intro i hi;have:=hget i hi;rw[y9 (by omega)]at this;obtain⟨ci,h1,h2⟩:=Option.bind_eq_some_iff.1 this;obtain⟨row,h3,h4⟩:=aAh n m e es hes ci _ h2;exact⟨ci,h1,row,h3,h4⟩);obtain⟨rows,vs,g1,g2,g3,g4,g5⟩:=bQc len key;refine⟨[.sl (P.cellsOf e) rows.length rows.flatten],?_,?_⟩;{simp only[Reps,Rep];refine⟨_,_,rfl,⟨some a,cap,vs,by rw[g1],by omega,by unfold maxLen at hc;omega,?_,bMg (λj hj=>g5 j (by omega)),g2⟩,rfl⟩;rw[<-g2.length,g4,g1]};{simp only[Fits,Fit];exact⟨_,_,rfl,⟨rows,rfl,g3⟩,rfl⟩}}};{cases h}};{cases h}};{rename_i fs ht;split at h;{rename_i ss' hss;split at h;{rename_i hlen;simp only[w7.injEq]at h;subst h;unfold DataW.trod at hx;rw[ht]at hx;split at hx<;>simp_all;obtain⟨hcl,xs,hm,_⟩:=hx;have:=aKc (λt ss h cs x hx=>aAh n f t ss h cs x hx) _ 0 ss' _ xs hss hm (by omega);simpa using this};{cases h}};{cases h}};{cases h}
end
section
variable {H : Type} {enc : TypeId × Value → H}
theorem aJi{P:Program}{W W':World}(hl:laidOutB P=true)(hb:Below W.heap.size W W'):
 ∀{ts:List TypeId} {vs:List Value} {ds:List (DataW H)} {p:List MemPlace},ts.all (λt=>P.readableRec t&&decide (t<P.types.size))=true->DataW.TrodAll enc P W 0 (λ_=>true) true ts vs ds p->(∀x∈p,x.block<W.heap.size)->DataW.TrodAll enc P W' 0 (λb=>decide (b<W.heap.size)) true ts vs ds p
 |[],_,_,_,_,h,_=>by obtain⟨rfl,rfl,rfl⟩:=trodAll_nil h;exact trodAll_mk0
 |t::ts,_,_,_,hr,h,hlt=>by obtain⟨v,vs1,d,ds1,a,b,rfl,rfl,rfl,h1,h2⟩:=trodAll_cons h;simp only[y4,x5,decide_eq_true_eq]at hr;exact trodAll_cons_mk (Below.trod hl hr.1.1 hr.1.2 h1 hb (λx hx=>hlt x (by simp[hx]))) (aJi hl hb (by simpa using hr.2) h2 (λx hx=>hlt x (by simp[hx])))
theorem aGm{P:Program}{W:World}{B:Nat}{sp:Nat->Bool}{hd:Bool}:
 ∀{ts:List TypeId} {vs:List Value} {ds:List (DataW H)} {p:List MemPlace},DataW.TrodAll enc P W B sp hd ts vs ds p->ds.length=ts.length
 |[],_,_,_,h=>by obtain⟨rfl,rfl,rfl⟩:=trodAll_nil h;rfl
 |_::_,_,_,_,h=>by obtain⟨v,vs1,d,ds1,a,b,rfl,rfl,rfl,h1,h2⟩:=trodAll_cons h;simp[aGm h2]
theorem bMq {C:Checked} {os:Os} {f:FuncId} {fn:Func} {s:ChangeSpec} {conds:List PathCond}
 (own:ownKnob C.prog.godebug=none) (started:os.Started) (noInit:C.prog.inits.idxOf? f=none) (hfn:C.prog.funcs[f]? =some fn)
 (witness:∃(w:World) (tape:Tape) (i:Input),w.os=os/\(w.forCall tape i).Shaped C.prog/\i.vars=[]/\Input.okWide C.prog (w.forCall tape i) .any w.heap.size f i/\s.pre6 enc C.prog fn conds false (w.forCall tape i).memory i.args/\Assume.holds {} C.prog (lone (Frame.enter C.prog f i.args .normal) [] (w.forCall tape i)))
 (tb:TypeId) (hres:fn.resultTypes=#[tb]) (htb:C.prog.underlying tb=some .bool) (hvars:s.vars=[])
 (hspec:∀ds:List (DataW H),ds.length=fn.params.size->s.fn H ds={results:=[.lit (.bool true)],args:=ds})
 (hl:laidOutB C.prog=true) (hread:fn.params.toList.all (λt=>C.prog.readableRec t&&decide (t<C.prog.types.size))=true)
 (walk:∀(W:World) (base:Nat) (args:Array Value) (ds:List (DataW H)) (p:List MemPlace),
  (∀(j:Nat) t v,fn.params[j]? =some t->args[j]? =some v->Value.okWide C.prog W .any base t v)->
  DataW.TrodAll enc C.prog W 0 (λ_=>true) true fn.params.toList args.toList ds p->(∀x∈p,x.block<W.heap.size)->
  Calls C.prog f args W λe w'=>e= .returned (.bool true)/\Below W.heap.size W w'):
 ReturnsInHanded {} C os f .any (s.pre6 enc C.prog fn conds false) (s.post enc C.prog fn false true false false):=by
 refine returnsInHanded_of_change own started noInit hfn witness ?_;intro W base args ds gs before hval hW _ _;have hW':=hW;obtain⟨p,q,hA,hV,rfl,hfz,hnd⟩:=hW;have hlt:∀x∈p,x.block<W.heap.size:=λx hx=>hW'.lt x (by simp[hx]);refine(walk W base args ds p hval hA hlt).mono λe W' ⟨he,hb⟩=>?_;subst he;have hlen:ds.length=fn.params.size:=(by rw[aGm hA];simp);rw[hvars]at hV;obtain⟨rfl,rfl⟩:=trodVars_none hV;have hs:=hspec ds hlen;refine⟨_,rfl,ds,[],p++[],[],p,[],hW',?_,?_,?_,hb.frame _,λh=>by cases h⟩;{rw[r8,hs,hres];exact trodAll_cons_mk (shut_bool htb _) trodAll_mk0};{rw[r8,hs];exact aJi hl hb hread hA hlt};{rw[hvars];simp[hs];trivial}
end
end Go.Proofs.YtcgggihjcelmhaaGreat
namespace Go.Proofs.YtcgggihjcelmhaaGreat
open Bool renaming and_eq_true → x5, not_eq_true' → u0, false_eq_true → o8
open List renaming getD → x8, all_eq_true → w5, all_cons → y4, length_append → y5, getElem?_eq_getElem → y9, range → u7, getElem?_append_right → d9, getElem?_append_left → e7, length_nil → l7, map_cons → m5, length_eq_zero_iff → m6, length_take → m7, cons_append → n7, getElem?_eq_some_iff → n9, length_drop → p8, nil_append → r6, append_nil → r8, length_set → t7, getElem?_drop → t9, getElem?_take → qQJ, append_assoc → qQY, eq_nil_or_concat → qZV, concat_eq_append → qZY
open Nat renaming le_refl → k9, lt_succ_self → y8, le_succ → l9, add_assoc → m4, zero_le → m9, lt_of_lt_of_le → o7, zero_add → p9, le_trans → qQQ, mul_le_mul_right → qQZ, add_mul → qZQ, add_zero → qZU
open Option renaming some → w7, map_eq_some_iff → w9, isSome_iff_exists → y3
set_option linter.all false
open Go.RowKit
inductive AV where
 |unk
 |und
 |nil
 |emp
 |bool (b:Bool)
 |int (k:IntKind) (n:Int)
 |ptr (r:Nat) (π:List Nat) (o:Nat)
 |sref (r:Nat) (π:List Nat) (o n sz:Nat)
 |bor (n:Nat) (cs:List AV)
 |bptr (cs:List AV) (o:Nat)
 |own (e:TypeId) (sz n:Nat) (cs:List AV)
 |agg (vs:List AV)
 |tup (vs:List AV)
structure Root where
 e:TypeId
 cs:List AV
abbrev Heap:=List (Nat×Option Root)
def AV.node:AV->Option Root
 | .own e _ _ cs=>some ⟨e,cs⟩
 |_=>none
def Heap.get1:Heap->Nat->Option Root
 |[],_=>none
 |(k,r)::h,i=>if k=i then r else Heap.get1 h i
def Heap.get(H:Heap)(r:Nat):List Nat->Option Root
 |[]=>H.get1 r
 |i::π=>match Heap.get H r π with
  |some t=>(t.cs.getD i .unk).node
  |none=>none
def Heap.put(H:Heap)(r:Nat):List Nat->List AV->Heap
 |[],cs=>match H.get1 r with
  |some t=>(r,some ⟨t.e,cs⟩)::H
  |none=>H
 |i::π,cs=>match H.get r π with
  |some t=>match t.cs.getD i .unk with
   | .own e sz m _=>Heap.put H r π (t.cs.set i (.own e sz m cs))
   |_=>H
  |none=>H
def Heap.kill(H:Heap)(r:Nat):List Nat->Heap
 |[]=>(r,none)::H
 |i::π=>match H.get r π with
  |some t=>Heap.put H r π (t.cs.set i .unk)
  |none=>H
def AV.at(r:Nat)(π:List Nat)(i:Nat):AV->AV
 | .own _ sz m _=> .sref r (i::π) 0 m sz
 |x=>x
def refer(r:Nat)(π:List Nat):Nat->List AV->List AV
 |_,[]=>[]
 |i,c::cs=>c.at r π i::refer r π (i+1) cs
structure Spot where
 ex:Bool
 b:Nat
 tot:Nat
 st:Nat
abbrev Spots:=Nat->List Nat->Spot
abbrev Fz:=Nat->Option (Bool×Obj)
def Keep(Φ:Fz)(w:World):Prop:=∀b x,Φ b=some x->w.heap[b]? =some x.2
def Fz.le(Φ Φ':Fz):Prop:=∀b x,Φ b=some x->Φ' b=some x
theorem Fz.le_refl(Φ:Fz):Φ.le Φ:=λ_ _ h=>h
theorem Fz.le.trans{Φ Φ' Φ'':Fz}(h:Φ.le Φ')(k:Φ'.le Φ''):Φ.le Φ'':=λb x e=>k b x (h b x e)
def RowOf(Φ:Fz)(s:Option Addr)(vs:List Value):Prop:=vs=[]\/∃b p cs e fz,s=some ⟨b,p,none⟩/\Φ b=some (true,.cells cs e fz)/\∀i,i<vs.length->cs[p+i]? =some (vs.getD i undef)
def Fz.tle(Φ Φ':Fz):Prop:=∀b o,Φ b=some (true,o)->Φ' b=some (true,o)
theorem Fz.le.tle{Φ Φ':Fz}(h:Φ.le Φ'):Φ.tle Φ':=λb o e=>h b _ e
theorem RowOf.le{Φ Φ':Fz}{s:Option Addr}{vs:List Value}(h:RowOf Φ s vs)(hl:Φ.tle Φ'):RowOf Φ' s vs:=h.imp id λ⟨b,p,cs,e,fz,h1,h2,h3⟩=>⟨b,p,cs,e,fz,h1,hl _ _ h2,h3⟩
mutual
def RV(Φ:Fz)(n:Nat)(β:Spots):AV->Value->Prop
 | .unk,_=>True
 | .und,v=>v=undef
 | .nil,v=>v= .slice none 0 0
 | .emp,v=>∃s,v= .slice s 0 0
 | .bool b,v=>v= .bool b
 | .int k z,v=>v= .int k z/\k.min<=z/\z<=k.max
 | .ptr r π o,v=>r<n/\(β r π).ex=true/\v= .pointer (some ⟨(β r π).b,(β r π).st+o,none⟩)
 | .sref r π o m sz,v=>r<n/\∃s cap,v= .slice s m cap/\m<=cap/\cap<=maxLen/\((m=0/\cap=0/\(o≠0\/(β r π).ex=false))\/((β r π).ex=true/\s=some ⟨(β r π).b,(β r π).st+o,none⟩/\o+cap*sz=(β r π).tot))
 | .bor m cs,v=>∃s cap vs,v= .slice s m cap/\m<=cap/\cap<=maxLen/\RowOf Φ s vs/\RVs Φ n β cs vs
 | .bptr cs o,v=>∃s p vs,v= .pointer (some p)/\RowOf Φ s vs/\RVs Φ n β cs vs/\(∀q,s=some q->p=q.add o)
 | .own _ _ _ _,_=>False
 | .agg vs,v=>∃arr,v= .agg arr/\RVs Φ n β vs arr.toList
 | .tup vs,v=>∃arr,v= .tuple arr/\RVt Φ n β vs arr.toList
def RVs(Φ:Fz)(n:Nat)(β:Spots):List AV->List Value->Prop
 |[],vs=>vs=[]
 |x::xs,vs=>∃v vs',vs=v::vs'/\v.oneCell'=true/\RV Φ n β x v/\RVs Φ n β xs vs'
def RVt(Φ:Fz)(n:Nat)(β:Spots):List AV->List Value->Prop
 |[],vs=>vs=[]
 |x::xs,vs=>∃v vs',vs=v::vs'/\RV Φ n β x v/\RVt Φ n β xs vs'
end
def NodeIs(Φ:Fz)(n:Nat)(β:Spots)(w:World)(r:Nat)(π:List Nat)(t:Root):Prop:=
 ((β r π).ex=false/\t.cs=[])\/
 ((β r π).ex=true/\Φ (β r π).b=none/\∃cur,w.heap[(β r π).b]? =some (.cells cur t.e (0,0))/\cur.size=(β r π).st+(β r π).tot/\t.cs.length<=(β r π).tot/\RVs Φ n β (refer r π 0 t.cs) ((cur.toList.drop (β r π).st).take t.cs.length))
structure RH (Φ : Fz) (n : Nat) (β : Spots) (H : Heap) (w : World) : Prop where
 root:∀r π t,H.get r π=some t->r<n/\NodeIs Φ n β w r π t
 apart:∀r π r' π',(H.get r π).isSome=true->(H.get r' π').isSome=true->(β r π).ex=true->(β r' π').ex=true->(β r π).b=(β r' π').b->r=r'/\π=π'
section
variable {Φ Φ' : Fz} {n n' : Nat} {β β' : Spots}
mutual
theorem RV.moreT(hΦ:Φ.tle Φ')(hn:n<=n')(hb:∀i,i<n->β' i=β i):∀{x:AV} {v:Value},RV Φ n β x v->RV Φ' n' β' x v
 | .unk,_,_=>by simp[RV]
 | .und,_,h=>by simpa only[RV]using h
 | .nil,_,h=>by simpa only[RV]using h
 | .emp,_,h=>by simpa only[RV]using h
 | .bool _,_,h=>by simpa only[RV]using h
 | .int _ _,_,h=>by simpa only[RV]using h
 | .own _ _ _ _,_,h=>by simp only[RV]at h
 | .ptr r π o,_,h=>by simp only[RV]at h ⊢;rw[hb r h.1];exact⟨by omega,h.2⟩
 | .sref r π o m sz,_,h=>by simp only[RV]at h ⊢;rw[hb r h.1];exact⟨by omega,h.2⟩
 | .bor m cs,_,h=>by simp only[RV]at h ⊢;obtain⟨s,cap,vs,h1,h2,h3,h4,h5⟩:=h;exact⟨s,cap,vs,h1,h2,h3,h4.le hΦ,RVs.moreT hΦ hn hb h5⟩
 | .bptr cs o,_,h=>by simp only[RV]at h ⊢;obtain⟨s,p,vs,h1,h2,h3,h4⟩:=h;exact⟨s,p,vs,h1,h2.le hΦ,RVs.moreT hΦ hn hb h3,h4⟩
 | .agg vs,_,h=>by simp only[RV]at h ⊢;obtain⟨arr,h1,h2⟩:=h;exact⟨arr,h1,RVs.moreT hΦ hn hb h2⟩
 | .tup vs,_,h=>by simp only[RV]at h ⊢;obtain⟨arr,h1,h2⟩:=h;exact⟨arr,h1,RVt.moreT hΦ hn hb h2⟩
theorem RVs.moreT(hΦ:Φ.tle Φ')(hn:n<=n')(hb:∀i,i<n->β' i=β i):∀{xs:List AV} {vs:List Value},RVs Φ n β xs vs->RVs Φ' n' β' xs vs
 |[],_,h=>by simpa only[RVs]using h
 |_::_,_,h=>by simp only[RVs]at h ⊢;obtain⟨v,vs',e,o,h1,h2⟩:=h;exact⟨v,vs',e,o,RV.moreT hΦ hn hb h1,RVs.moreT hΦ hn hb h2⟩
theorem RVt.moreT(hΦ:Φ.tle Φ')(hn:n<=n')(hb:∀i,i<n->β' i=β i):∀{xs:List AV} {vs:List Value},RVt Φ n β xs vs->RVt Φ' n' β' xs vs
 |[],_,h=>by simpa only[RVt]using h
 |_::_,_,h=>by simp only[RVt]at h ⊢;obtain⟨v,vs',e,h1,h2⟩:=h;exact⟨v,vs',e,RV.moreT hΦ hn hb h1,RVt.moreT hΦ hn hb h2⟩
end
theorem RV.more(hΦ:Φ.le Φ')(hn:n<=n')(hb:∀i,i<n->β' i=β i){x:AV}{v:Value}(h:RV Φ n β x v):RV Φ' n' β' x v:=h.moreT hΦ.tle hn hb
theorem RVs.more(hΦ:Φ.le Φ')(hn:n<=n')(hb:∀i,i<n->β' i=β i){x:List AV}{v:List Value}(h:RVs Φ n β x v):RVs Φ' n' β' x v:=h.moreT hΦ.tle hn hb
theorem RVt.more(hΦ:Φ.le Φ')(hn:n<=n')(hb:∀i,i<n->β' i=β i){x:List AV}{v:List Value}(h:RVt Φ n β x v):RVt Φ' n' β' x v:=h.moreT hΦ.tle hn hb
theorem RVs.length:∀{xs:List AV} {vs:List Value},RVs Φ n β xs vs->vs.length=xs.length
 |[],_,h=>by simp only[RVs]at h;simp[h]
 |_::_,_,h=>by simp only[RVs]at h;obtain⟨v,vs',rfl,_,_,h2⟩:=h;simp[RVs.length h2]
theorem RVt.length:∀{xs:List AV} {vs:List Value},RVt Φ n β xs vs->vs.length=xs.length
 |[],_,h=>by simp only[RVt]at h;simp[h]
 |_::_,_,h=>by simp only[RVt]at h;obtain⟨v,vs',rfl,_,h2⟩:=h;simp[RVt.length h2]
theorem RVs.append:∀{xs ys:List AV} {vs us:List Value},RVs Φ n β xs vs->RVs Φ n β ys us->RVs Φ n β (xs++ys) (vs++us)
 |[],_,_,_,h,k=>by simp only[RVs]at h;subst h;simpa using k
 |_::_,_,_,_,h,k=>by simp only[RVs,n7]at h ⊢;obtain⟨v,vs',rfl,o,h1,h2⟩:=h;exact⟨v,vs'++_,rfl,o,h1,h2.append k⟩
theorem RVs.get:∀{xs:List AV} {vs:List Value},RVs Φ n β xs vs->∀(i:Nat),i<xs.length->RV Φ n β (xs.getD i .unk) (vs.getD i undef)/\(vs.getD i undef).oneCell'=true
 |[],_,_,_,hi=>by simp at hi
 |x::xs,_,h,i,hi=>by simp only[RVs]at h;obtain⟨v,vs',rfl,o,h1,h2⟩:=h;(cases i with|zero=>exact⟨h1,o⟩|succ i=>simpa using h2.get i (by simpa using hi))
theorem RVs.of_get:∀{xs:List AV} {vs:List Value},vs.length=xs.length->(∀i,i<xs.length->RV Φ n β (xs.getD i .unk) (vs.getD i undef)/\(vs.getD i undef).oneCell'=true)->RVs Φ n β xs vs
 |[],vs,h,_=>by simp only[RVs];exact m6.1 (by simpa using h)
 |x::xs,[],h,_=>by simp at h
 |x::xs,v::vs,h,k=>by simp only[RVs];refine⟨v,vs,rfl,(k 0 (by simp)).2,(k 0 (by simp)).1,RVs.of_get (by simpa using h) λi hi=>?_⟩;simpa using k (i+1) (by simpa using hi)
theorem RVs.drop{xs:List AV}{vs:List Value}(h:RVs Φ n β xs vs)(k:Nat):RVs Φ n β (xs.drop k) (vs.drop k):=by have hl:=h.length;refine RVs.of_get (by simp[hl]) λi hi=>?_;simp only[p8]at hi;have:=h.get (k+i) (by omega);simpa[x8,t9]using this
theorem RVs.take{xs:List AV}{vs:List Value}(h:RVs Φ n β xs vs)(k:Nat):RVs Φ n β (xs.take k) (vs.take k):=by have hl:=h.length;refine RVs.of_get (by simp[hl]) λi hi=>?_;simp only[m7]at hi;have:=h.get i (by omega);simpa[x8,qQJ,show i<k by omega]using this
theorem fV{α:Type}(l:List α)(i j:Nat)(x d:α):(l.set i x).getD j d=if i=j/\j<l.length then x else l.getD j d:=by simp only[x8,List.getElem?_set];by_cases h:i=j;{subst h;by_cases h2:i<l.length<;>simp[h2]};{simp[h]}
theorem RVs.set{xs:List AV}{vs:List Value}(h:RVs Φ n β xs vs)(k:Nat){x:AV}{v:Value}(hx:RV Φ n β x v)(ho:v.oneCell'=true):RVs Φ n β (xs.set k x) (vs.set k v):=by have hl:=h.length;refine RVs.of_get (by simp[hl]) λi hi=>?_;simp only[t7]at hi;have:=h.get i hi;rw[fV,fV,hl];split;{exact⟨hx,ho⟩};{exact this}
end
theorem aY(r:Nat)(π:List Nat):∀(i:Nat) (cs:List AV),(refer r π i cs).length=cs.length
 |_,[]=>rfl
 |i,c::cs=>by simp[refer,aY r π (i+1) cs]
theorem eS(r:Nat)(π:List Nat):∀(k:Nat) (cs:List AV) (i:Nat),(refer r π k cs).getD i .unk=(cs.getD i .unk).at r π (k+i)
 |_,[],i=>by simp[refer,AV.at]
 |k,c::cs,0=>by simp[refer]
 |k,c::cs,i+1=>by have:=eS r π (k+1) cs i;simp only[refer,List.getD_cons_succ];rw[this];congr 1;omega
theorem yD{r:Nat}{π:List Nat}{i:Nat}{x:AV}(h:x.node=none):x.at r π i=x:=by cases x<;>simp_all [AV.node,AV.at]
theorem aPz{xs ys:List AV}(hl:xs.length=ys.length)(h:∀i,i<xs.length->xs.getD i .unk=ys.getD i .unk):xs=ys:=by apply List.ext_getElem hl;intro i h1 h2;have:=h i h1;simpa[x8,h1,h2]using this
theorem aBi(r:Nat)(π:List Nat):∀(o k:Nat) (cs:List AV),(refer r π k cs).drop o=refer r π (k+o) (cs.drop o)
 |0,_,_=>by simp
 |o+1,k,[]=>by simp[refer]
 |o+1,k,c::cs=>by simp only[refer,List.drop_succ_cons];rw[aBi r π o (k+1) cs];congr 1;omega
theorem xC(r:Nat)(π:List Nat):∀(m k:Nat) (cs:List AV),(refer r π k cs).take m=refer r π k (cs.take m)
 |0,_,_=>by simp[refer]
 |m+1,k,[]=>by simp[refer]
 |m+1,k,c::cs=>by simp[refer,xC r π m (k+1) cs]
def noOwn(cs:List AV):Bool:=cs.all λx=>x.node.isNone
theorem iF{r:Nat}{π:List Nat}:∀{k:Nat} {cs:List AV},noOwn cs=true->refer r π k cs=cs
 |_,[],_=>rfl
 |k,c::cs,h=>by simp only[noOwn,y4,x5,Option.isNone_iff_eq_none]at h;simp only[refer,yD h.1];rw[iF (by simpa[noOwn]using h.2)]
theorem aWg{Φ:Fz}{n:Nat}{β:Spots}{x:AV}{v:Value}(h:RV Φ n β x v):x.node=none:=by cases x<;>simp_all [RV,AV.node]
theorem aEo{Φ:Fz}{n:Nat}{β:Spots}:∀{xs:List AV} {vs:List Value},RVs Φ n β xs vs->noOwn xs=true
 |[],_,_=>rfl
 |x::xs,_,h=>by simp only[RVs]at h;obtain⟨v,vs',_,_,h1,h2⟩:=h;have:=aEo h2;simp only[noOwn,y4,x5,Option.isNone_iff_eq_none]at this ⊢;exact⟨aWg h1,this⟩
theorem vN{cs:List AV}(h:noOwn cs=true)(j:Nat):(cs.getD j .unk).node=none:=by rcases Nat.lt_or_ge j cs.length with h1|h1;{simp only[noOwn,w5,Option.isNone_iff_eq_none]at h;have:=h cs[j] (List.getElem_mem h1);simpa[x8,h1]using this};{simp[x8,Nat.not_lt.2 h1,AV.node]}
theorem aGq{H H':Heap}{r r':Nat}{ρ ρ':List Nat}(h:H'.get r' ρ'=H.get r ρ):∀σ:List Nat,H'.get r' (σ++ρ')=H.get r (σ++ρ)
 |[]=>h
 |i::σ=>by simp only[n7,Heap.get];rw[aGq h σ]
theorem aDp{H H':Heap}{r r':Nat}{ρ ρ':List Nat}{i i':Nat}{t t':Root}(h1:H'.get r' ρ'=some t')(h2:H.get r ρ=some t)(h:(t'.cs.getD i' .unk).node=(t.cs.getD i .unk).node)(σ:List Nat):
 H'.get r' (σ++i'::ρ')=H.get r (σ++i::ρ):=by
 apply aGq;simp only[Heap.get,h1,h2,h]
theorem eO{H:Heap}{r:Nat}{ρ:List Nat}(h:H.get r ρ=none):∀σ:List Nat,H.get r (σ++ρ)=none
 |[]=>h
 |i::σ=>by simp only[n7,Heap.get];rw[eO h σ]
theorem bH{H:Heap}{k r:Nat}{t:Option Root}(h:k≠r):∀π,Heap.get ((k,t)::H) r π=H.get r π
 |[]=>by simp[Heap.get,Heap.get1,h]
 |i::π=>by simp only[Heap.get];rw[bH h π]
theorem aGc{cs:List AV}{i:Nat}{e:TypeId}{sz m:Nat}{ds:List AV}(h:cs.getD i .unk= .own e sz m ds):i<cs.length:=by rcases Nat.lt_or_ge i cs.length with h1|h1;{exact h1};{simp[x8,Nat.not_lt.2 h1]at h}
theorem vP{H:Heap}{r:Nat}:∀{π:List Nat} {t:Root} {cs:List AV},H.get r π=some t->(H.put r π cs).get r π=some ⟨t.e,cs⟩
 |[],t,cs,h=>by simp only[Heap.get]at h;simp[Heap.put,h,Heap.get,Heap.get1]
 |i::π,t,cs,h=>by simp only[Heap.get]at h;split at h;{rename_i tp htp;cases hc:tp.cs.getD i .unk<;>rw[hc]at h<;>simp only[AV.node,w7.injEq,reduceCtorEq]at h;rename_i e sz m ds;subst h;simp only[Heap.put,htp,hc];have:=vP (cs:=tp.cs.set i (.own e sz m cs)) htp;simp only[Heap.get,this];rw[fV,if_pos ⟨rfl,aGc hc⟩];rfl};{cases h}
def Under(ρ π:List Nat):Prop:=∃σ,π=σ++ρ
theorem Under.refl(ρ:List Nat):Under ρ ρ:=⟨[],rfl⟩
theorem Under.nil(π:List Nat):Under [] π:=⟨π,by simp⟩
theorem aYk{H:Heap}{r:Nat}:∀{π:List Nat} {t:Root} {cs:List AV},H.get r π=some t->∀r' π' t',(H.put r π cs).get r' π'=some t'->
 (r'=r/\Under π π')\/∃t0,H.get r' π'=some t0/\t'.e=t0.e/\t'.cs.length=t0.cs.length/\refer r' π' 0 t'.cs=refer r' π' 0 t0.cs
 |[],t,cs,h,r',π',t',h'=>by by_cases hr:r=r';{exact .inl ⟨hr.symm,Under.nil _⟩};{simp only[Heap.get]at h;simp only[Heap.put,h]at h';rw[bH hr]at h';exact .inr ⟨t',h',rfl,rfl,rfl⟩}
 |i::π,t,cs,h,r',π',t',h'=>by simp only[Heap.get]at h;split at h;{rename_i tp htp;cases hc:tp.cs.getD i .unk<;>rw[hc]at h<;>simp only[AV.node,w7.injEq,reduceCtorEq]at h;rename_i e sz m ds;subst h;simp only[Heap.put,htp,hc]at h';have hA:=vP (cs:=tp.cs.set i (.own e sz m cs)) htp;rcases aYk htp r' π' t' h' with⟨rfl,σ,rfl⟩|h2;{rcases qZV σ with rfl|⟨σ,j,rfl⟩;{simp only[r6]at h' ⊢;rw[hA]at h';cases h';refine .inr ⟨tp,htp,rfl,by simp,aPz (by simp[aY]) λk hk=>?_⟩;rw[eS,eS,fV];split;{rename_i hk2;obtain⟨rfl,_⟩:=hk2;rw[hc];rfl};{rfl}};{simp only[qZY,qQY,List.singleton_append]at h' ⊢;by_cases hj:j=i;{subst hj;exact .inl ⟨trivial,σ,rfl⟩};{refine .inr ⟨t',?_,rfl,rfl,rfl⟩;rw[<-h'];refine(aDp hA htp ?_ σ).symm;rw[fV,if_neg (λh=>hj h.1.symm)]}}};{exact .inr h2}};{cases h}
def bMk(cs' cs:List AV):Prop:=cs'.length=cs.length/\∀j,(cs'.getD j .unk).node=none\/(cs'.getD j .unk).node=(cs.getD j .unk).node
theorem aRa{H:Heap}{r:Nat}{π:List Nat}{t:Root}{cs:List AV}(h:H.get r π=some t)(hl:bMk cs t.cs)(r':Nat)(π':List Nat)(t':Root)(h':(H.put r π cs).get r' π'=some t'):
 (r'=r/\π'=π/\t'=⟨t.e,cs⟩)\/(¬(r'=r/\π'=π)/\∃t0,H.get r' π'=some t0/\t'.e=t0.e/\t'.cs.length=t0.cs.length/\refer r' π' 0 t'.cs=refer r' π' 0 t0.cs):=by
 by_cases hsame:r'=r/\π'=π;{obtain⟨rfl,rfl⟩:=hsame;rw[vP h]at h';cases h';exact .inl ⟨rfl,rfl,rfl⟩};{refine .inr ⟨hsame,?_⟩;rcases aYk h r' π' t' h' with⟨rfl,σ,rfl⟩|h2;{rcases qZV σ with rfl|⟨σ,j,rfl⟩;{exact absurd ⟨rfl,rfl⟩ hsame};{simp only[qQY,List.singleton_append,qZY]at h' ⊢;rcases hl.2 j with hj|hj;{have hd:(H.put r' π cs).get r' (j::π)=none:=(by simp only[Heap.get,vP h];exact hj);rw[eO hd σ]at h';cases h'};{exact⟨t',by rw[<-h'];exact(aDp (vP h) h hj σ).symm,rfl,rfl,rfl⟩}}};{exact h2}}
theorem aDm{H:Heap}{r:Nat}{π:List Nat}{t:Root}{cs:List AV}(h:H.get r π=some t)(hl:bMk cs t.cs){r':Nat}{π':List Nat}(h':((H.put r π cs).get r' π').isSome=true):(H.get r' π').isSome=true:=by obtain⟨t',ht'⟩:=y3.1 h';rcases aRa h hl r' π' t' ht' with⟨rfl,rfl,_⟩|⟨_,t0,h0,_⟩;{simp[h]};{simp[h0]}
section
variable {Φ Φ' : Fz} {n n' : Nat} {β β' : Spots} {H : Heap} {w w' : World}
theorem NodeIs.keep {r:Nat} {π:List Nat} {t:Root} (h:NodeIs Φ n β w r π t) (hr:r<n) (hΦ:Φ.le Φ') (hn:n<=n') (hb:∀i,i<n->β' i=β i) (h0:(β r π).ex=true->Φ' (β r π).b=none)
 (hk:(β r π).ex=true->w'.heap[(β r π).b]? =w.heap[(β r π).b]?):NodeIs Φ' n' β' w' r π t:=by
 unfold NodeIs at*;rw[hb r hr];refine h.imp id λ⟨h1,h2,cur,h3,h4,h5,h6⟩=>⟨h1,h0 h1,cur,by rw[hk h1];exact h3,h4,h5,h6.more hΦ hn hb⟩
theorem RH.kept (h:RH Φ n β H w) (hΦ:Φ.le Φ') (hn:n<=n') (hb:∀i,i<n->β' i=β i) (h0:∀r π t,H.get r π=some t->(β r π).ex=true->Φ' (β r π).b=none)
 (hk:∀r π t,H.get r π=some t->(β r π).ex=true->w'.heap[(β r π).b]? =w.heap[(β r π).b]?):RH Φ' n' β' H w':=by
 refine⟨λr π t hr=>?_,λr π r' π' hr hr' hx hx' he=>?_⟩;{obtain⟨h1,h2⟩:=h.root r π t hr;exact⟨by omega,h2.keep h1 hΦ hn hb (h0 r π t hr) (hk r π t hr)⟩};{obtain⟨t,ht⟩:=y3.1 hr;obtain⟨t',ht'⟩:=y3.1 hr';rw[hb r (h.root r π t ht).1]at he hx;rw[hb r' (h.root r' π' t' ht').1]at he hx';exact h.apart r π r' π' hr hr' hx hx' he}
theorem RH.lt(h:RH Φ n β H w){r:Nat}{π:List Nat}{t:Root}(hr:H.get r π=some t)(hx:(β r π).ex=true):(β r π).b<w.heap.size:=by obtain⟨_,h2⟩:=h.root r π t hr;rcases h2 with⟨h3,_⟩|⟨_,_,cur,h3,_⟩;{rw[hx]at h3;cases h3};{exact(Array.getElem?_eq_some_iff.1 h3).1}
theorem RH.own(h:RH Φ n β H w){r:Nat}{π:List Nat}{t:Root}(hr:H.get r π=some t)(hx:(β r π).ex=true):Φ (β r π).b=none/\∃cur,w.heap[(β r π).b]? =some (.cells cur t.e (0,0))/\cur.size=(β r π).st+(β r π).tot/\t.cs.length<=(β r π).tot/\RVs Φ n β (refer r π 0 t.cs) ((cur.toList.drop (β r π).st).take t.cs.length):=by rcases(h.root r π t hr).2 with⟨h3,_⟩|⟨_,h3⟩;{rw[hx]at h3;cases h3};{exact h3}
theorem RH.full(h:RH Φ n β H w){r:Nat}{π:List Nat}{t:Root}(hr:H.get r π=some t)(hc:0<t.cs.length):(β r π).ex=true:=by rcases(h.root r π t hr).2 with⟨_,h4⟩|⟨h3,_⟩;{rw[h4]at hc;simp at hc};{exact h3}
theorem Keep.lt(h:Keep Φ w){b:Nat}{x:Bool×Obj}(hb:Φ b=some x):b<w.heap.size:=(Array.getElem?_eq_some_iff.1 (h b x hb)).1
theorem Keep.new(h:Keep Φ w):Φ w.heap.size=none:=by
 (cases e:Φ w.heap.size with|none=>rfl|some x=>have:=h.lt e;omega)
theorem Keep.alloc(h:Keep Φ w)(o:Obj):Keep Φ {w with heap:=w.heap.push o}:=λb x hb=>by have hlt:=h.lt hb;rw[show({w with heap:=w.heap.push o}:World).heap[b]? =w.heap[b]? from Below.heap_alloc w o b hlt];exact h b x hb
theorem Keep.setCell(h:Keep Φ w){a:Addr}(ha:Φ a.block=none)(u:Value):Keep Φ (w.setCell a u):=λb x hb=>by rw[Below.heap_setCell w a u b (λe=>by subst e;rw[ha]at hb;cases hb)];exact h b x hb
theorem RH.alloc(h:RH Φ n β H w)(hw:Keep Φ w){e:TypeId}{cs:List AV}{cur:Array Value}(hc:cs.length<=cur.size)(hv:RVs Φ n β cs (cur.toList.take cs.length)):
 RH Φ (n+1) (λi=>if i=n then λ_=>⟨true,w.heap.size,cur.size,0⟩else β i) ((n,some ⟨e,cs⟩)::H) {w with heap:=w.heap.push (.cells cur e (0,0))}:=by
 have hb:∀i,i<n->(λi=>if i=n then λ_=>(⟨true,w.heap.size,cur.size,0⟩:Spot)else β i) i=β i:=λi hi=>by simp[show i≠n by omega]
 have hk:=h.kept (n':=n+1) (w':={w with heap:=w.heap.push (.cells cur e (0,0))}) (Fz.le_refl Φ) (l9 _) hb (λr π t hr hx=>(h.own hr hx).1) (λr π t hr hx=>Below.heap_alloc w _ _ (h.lt hr hx));have hno:=aEo hv
 have hnew:∀π t,Heap.get ((n,some ⟨e,cs⟩)::H) n π=some t->π=[]/\t=⟨e,cs⟩:=by
  intro π t ht;rcases qZV π with rfl|⟨σ,j,rfl⟩;{simp only[Heap.get,Heap.get1,if_true,w7.injEq]at ht;exact⟨rfl,ht.symm⟩}
  · have hd:Heap.get ((n,some ⟨e,cs⟩)::H) n [j]=none:=by
     have hnj:=vN hno j;simp only[Heap.get,Heap.get1,if_true];exact hnj
    rw[qZY,eO hd σ]at ht;cases ht
 refine⟨λr π t hr=>?_,λr π r' π' hr hr' hx hx' he=>?_⟩;{by_cases e1:n=r;{subst e1;obtain⟨rfl,rfl⟩:=hnew π t hr;refine⟨y8 _,.inr ⟨by simp,by simpa using hw.new,cur,by simp,by simp,by simpa using hc,?_⟩⟩;rw[iF hno];have:=hv.more (Fz.le_refl Φ) (l9 n) hb;simpa using this};{rw[bH e1]at hr;exact hk.root r π t hr}};{obtain⟨t,ht⟩:=y3.1 hr;obtain⟨t',ht'⟩:=y3.1 hr';by_cases e1:n=r<;>by_cases e2:n=r';{subst e1;subst e2;obtain⟨rfl,_⟩:=hnew π t ht;obtain⟨rfl,_⟩:=hnew π' t' ht';exact⟨rfl,rfl⟩};{rw[bH e2]at ht';have h1:=(h.root _ _ _ ht').1;subst e1;have hx2:(β r' π').ex=true:=(by simpa[show r'≠n by omega]using hx');have:=h.lt ht' hx2;simp[show r'≠n by omega]at he;omega};{rw[bH e1]at ht;have h1:=(h.root _ _ _ ht).1;subst e2;have hx2:(β r π).ex=true:=(by simpa[show r≠n by omega]using hx);have:=h.lt ht hx2;simp[show r≠n by omega]at he;omega};{rw[bH e1]at hr;rw[bH e2]at hr';exact hk.apart r π r' π' hr hr' hx hx' he}}
theorem RH.putCells (h:RH Φ n β H w) {r:Nat} {π:List Nat} {t:Root} (hr:H.get r π=some t) (hx:(β r π).ex=true) {cs:List AV} (hl:bMk cs t.cs) {cur:Array Value}
 (hcur:w'.heap[(β r π).b]? =some (.cells cur t.e (0,0))) (hs:cur.size=(β r π).st+(β r π).tot) (hcs:RVs Φ n β (refer r π 0 cs) ((cur.toList.drop (β r π).st).take cs.length))
 (hk:∀b,b≠(β r π).b->w'.heap[b]? =w.heap[b]?):RH Φ n β (H.put r π cs) w':=by
 refine⟨λr' π' t' h'=>?_,λr1 π1 r2 π2 h1 h2 hx1 hx2 he=>h.apart r1 π1 r2 π2 (aDm hr hl h1) (aDm hr hl h2) hx1 hx2 he⟩;rcases aRa hr hl r' π' t' h' with⟨rfl,rfl,rfl⟩|⟨hne,t0,h0,e1,e2,e3⟩;{obtain⟨g1,cur0,g2,g3,g4,g5⟩:=h.own hr hx;refine⟨(h.root _ _ _ hr).1,.inr ⟨hx,g1,cur,hcur,hs,?_,hcs⟩⟩;have:=hcs.length;simp only[m7,p8,Array.length_toList,aY]at this;show cs.length<=(β r' π').tot;omega};{obtain⟨g1,g2⟩:=h.root r' π' t0 h0;refine⟨g1,g2.imp (λ⟨k1,k2⟩=>⟨k1,m6.1 (by rw[e2,k2];rfl)⟩) λ⟨k1,k2,cur',k3,k4,k5,k6⟩=>⟨k1,k2,cur',?_,k4,by omega,by rw[e3,e2];exact k6⟩⟩;rw[hk _ λe=>hne (h.apart r' π' r π (by simp[h0]) (by simp[hr]) k1 hx e),e1];exact k3}
theorem aDc{cs:List AV}{o:Nat}{x:AV}(h:x.node=none):bMk (cs.set o x) cs:=by refine⟨by simp,λj=>?_⟩;rw[fV];split;{exact .inl h};{exact .inr rfl}
theorem aYa{r:Nat}{π:List Nat}{cs:List AV}{o:Nat}{x:AV}(h:x.node=none):refer r π 0 (cs.set o x)=(refer r π 0 cs).set o x:=by refine aPz (by simp[aY]) λi hi=>?_;rw[eS,fV,fV,eS,aY];split;{exact yD h};{rfl}
theorem RH.setCell (h:RH Φ n β H w) {r:Nat} {π:List Nat} {t:Root} (hr:H.get r π=some t) {o:Nat} (ho:o<t.cs.length)
 {x:AV} {v:Value} (hx:RV Φ n β x v) (h1:v.oneCell'=true):RH Φ n β (H.put r π (t.cs.set o x)) (w.setCell ⟨(β r π).b,(β r π).st+o,none⟩ v):=by
 have hex:=h.full hr (by omega);obtain⟨g1,cur,g2,g3,g4,g5⟩:=h.own hr hex;refine h.putCells hr hex (aDc (aWg hx)) (cur:=cur.setIfInBounds ((β r π).st+o) v) ?_ (by simpa using g3) ?_ λb hb=>Below.heap_setCell _ _ _ _ hb;{simp only[World.setCell,Array.getElem?_modify,if_true,g2];rfl};{rw[aYa (aWg hx)];have:=g5.set o hx h1;have e:(cur.setIfInBounds ((β r π).st+o) v).toList.drop (β r π).st=(cur.toList.drop (β r π).st).set o v:=(by rw[Array.toList_setIfInBounds,List.drop_set,if_neg (by omega),show(β r π).st+o-(β r π).st=o by omega]);rw[e];simpa[List.take_set]using this}
end
inductive Opd where
 |t (i:Nat)
 |c (v:AV)
def Opd.val(env:List AV):Opd->AV
 | .t i=>env.getD i .unk
 | .c v=>v
inductive LOp where
 |mv (x:Opd)
 |pick (c a b:Opd)
 |box (e:TypeId) (x:Opd)
 |fresh (e:TypeId) (zero:List AV)
 |bld (zero:List AV) (parts:List (Nat×Nat×Opd))
 |bsl (e:TypeId) (sz m:Nat) (zero:List AV) (parts:List (Nat×Nat×Opd))
 |load (ag:Bool) (m:Nat) (a:Opd)
 |store (m:Nat) (a x:Opd)
 |bin (op:BinOp) (x y:Opd)
 |binb (neg:Bool) (x y:Opd)
 |un (op:UnOp) (x:Opd)
 |mk (e:TypeId) (sz bytes:Nat) (zero:List AV) (l:Opd)
 |slc (sz:Nat) (x:Opd) (lo hi:Option Opd)
 |fadr (off:Nat) (x:Opd)
 |fld (ag:Bool) (off m:Nat) (x:Opd)
 |iadr (sz:Nat) (x i:Opd)
 |ext (x:Opd) (i:Nat)
 |len (x:Opd)
 |app (e:TypeId) (sz bytes:Nat) (zero:List AV) (s x:Opd)
 |cpy (sz:Nat) (d s:Opd)
 |cvt (k:IntKind) (x:Opd)
 |sh (left:Bool) (x y:Opd)
 |beq (neg:Bool) (offs:List (Nat×Bool)) (x y:Opd)
 |nck (x:Opd)
 |mx (most:Bool) (x y:Opd)
 |call (f:FuncId) (xs:List Opd)
structure LOper where
 dst:Option Nat
 op:LOp
 g:Option (Nat×Bool):=none
mutual
def dL:Value->Option AV
 | .bool b=>some (.bool b)
 | .int k n=>if k.min<=n/\n<=k.max then some (.int k n)else none
 | .slice none 0 0=>some .nil
 | .pointer none=>some .unk
 | .agg ⟨cs⟩=>(tD cs).map .agg
 |_=>none
def tD:List Value->Option (List AV)
 |[]=>some []
 |v::vs=>if v.oneCell' then match dL v,tD vs with|some x,some xs=>some (x::xs)|_,_=>none else none
end
def aI:Operand->Option Opd
 | .tmp t=>some (.t t)
 | .const v=>(dL v).map .c
 |_=>none
def aCe:List Operand->Option (List Opd)
 |[]=>some []
 |x::xs=>match aI x,aCe xs with|some y,some ys=>some (y::ys)|_,_=>none
def zeroCells(P:Program)(t:TypeId):Option (List AV):=((P.info? t).bind (·.zero)).bind λz=>tD z.cells.toList
def aWd(P:Program)(t:TypeId):Option Bool:=(P.underlying t).map λ| .struct _=>true| .array _ _=>true|_=>false
def xN(P:Program)(fs:Array Field):List (Nat×Operand)->Option (List (Nat×Nat×Opd))
 |[]=>some []
 |(i,x)::ps=>match fs[i]?,aI x,xN P fs ps with
  |some f,some y,some ys=>(P.info? f.type).map λinf=>(f.offset,inf.size,y)::ys
  |_,_,_=>none
def vF(sz:Nat):List (Nat×Operand)->Option (List (Nat×Nat×Opd))
 |[]=>some []
 |(i,x)::ps=>match aI x,vF sz ps with
  |some y,some ys=>some ((i*sz,sz,y)::ys)
  |_,_=>none
def rR:Option Operand->Option (Option Opd)
 |none=>some none
 |some x=>(aI x).map some
def aUm(P:Program)(f:Field):Bool:=f.name !="_"&&(match P.underlying f.type with|some (.int _)=>true|some .bool=>true|_=>false)
def fieldAt(P:Program)(f:Field):Nat×Bool:=(f.offset,match P.underlying f.type with|some .bool=>true|_=>false)
def aKi(P:Program)(f:Field):Bool:=f.name !="_"&&(match P.underlying f.type with
 |some (.int _)=>true
 |some .bool=>true
 |some (.struct gs)=>gs.toList.all (aUm P)&&!P.stoodInHeld f.type&&(match P.info? f.type with|some inf=>gs.toList.all λg=>Nat.blt g.offset inf.size|none=>false)
 |_=>false)
def leaves(P:Program)(f:Field):List (Nat×Bool):=match P.underlying f.type with
 |some (.struct gs)=>gs.toList.map λg=>(f.offset+g.offset,(fieldAt P g).2)
 |_=>[fieldAt P f]
def aFe(P:Program)(t:TypeId)(fs:Array Field):Bool:=fs.toList.all (aKi P)&&!P.stoodInHeld t&&!(P.eqGuardType P.depth t)
def lD(P:Program)(o:Oper):Option LOp:=
 match o.op with
 | .move x| .assign x=>(aI x).map .mv
 | .pick c a b=>match aI c,aI a,aI b with|some c,some a,some b=>some (.pick c a b)|_,_,_=>none
 | .box e x=>(aI x).map (.box e)
 | .alloc e=>(zeroCells P e).map (.fresh e)
 | .build t ps=>match P.underlying t,zeroCells P t,ps.toList with
  |some (.struct fs),some z,l=>if fs.toList.all (λf=>(P.info? f.type).isSome)then(xN P fs l).map (.bld z)else none
  |_,_,_=>none
 | .buildSlice t m ps=>match P.underlying t with
  |some (.slice e)=>match P.info? e,zeroCells P e with
   |some inf,some z=>if m*inf.size<=2^24/\z.length=inf.size/\0<inf.size then(vF inf.size ps.toList).map (.bsl e inf.size m z)else none
   |_,_=>none
  |_=>none
 | .load t a=>match aWd P t,P.info? t,aI a with
  |some ag,some inf,some a=>some (.load ag inf.size a)
  |_,_,_=>none
 | .store t a x=>match P.info? t,aI a,aI x with
  |some inf,some a,some x=>some (.store inf.size a x)
  |_,_,_=>none
 | .binOp op t x y _=>match P.underlying t,aI x,aI y with
  |some (.int _),some x,some y=>match op with
   | .shl=>some (.sh true x y)
   | .shr=>some (.sh false x y)
   |op=>some (.bin op x y)
  |some (.struct fs),some x,some y=>if aFe P t fs then match op with
   | .eql=>some (.beq false (fs.toList.flatMap (leaves P)) x y)
   | .neq=>some (.beq true (fs.toList.flatMap (leaves P)) x y)
   |_=>none
   else none
  |some .bool,some x,some y=>match op with
   | .eql=>some (.binb false x y)
   | .neq=>some (.binb true x y)
   |_=>none
  |_,_,_=>none
 | .unOp op _ x=>(aI x).map (.un op)
 | .makeSlice t l c=>match P.underlying t,aI l,aI c with
  |some (.slice e),some (.t l),some (.t c)=>match P.info? e,zeroCells P e with
   |some inf,some z=>if l=c/\z.length=inf.size/\0<inf.size then some (.mk e inf.size inf.bytes z (.t l))else none
   |_,_=>none
  |some (.slice e),some (.c (.int .i64 l)),some (.c (.int .i64 c))=>match P.info? e,zeroCells P e with
   |some inf,some z=>if l=c/\z.length=inf.size/\0<inf.size then some (.mk e inf.size inf.bytes z (.c (.int .i64 l)))else none
   |_,_=>none
  |_,_,_=>none
 | .fieldAddr s x f=>match P.underlying s,aI x with
  |some (.struct fs),some x=>match fs[f]? with
   |some f=>match P.info? f.type with
    |some inf=>if inf.size=0 then none else some (.fadr f.offset x)
    |none=>none
   |none=>none
  |_,_=>none
 | .field s x f=>match P.underlying s,aI x with
  |some (.struct fs),some x=>match fs[f]? with
   |some f=>match aWd P f.type,P.info? f.type with
    |some ag,some inf=>some (.fld ag f.offset inf.size x)
    |_,_=>none
   |none=>none
  |_,_=>none
 | .indexAddr t x i=>match P.underlying t,aI x,aI i with
  |some (.slice e),some x,some i=>(P.info? e).map λinf=> .iadr inf.size x i
  |_,_,_=>none
 | .extract x i=>(aI x).map (.ext · i)
 | .call {callee:= .builtin .len,args:=⟨[x]⟩,argTypes:=⟨[t]⟩}=>match P.underlying t,aI x with
  |some (.slice _),some x=>some (.len x)
  |_,_=>none
 | .slice t x lo hi none=>match P.underlying t,aI x,rR lo,rR hi with
  |some (.slice e),some x,some lo,some hi=>match P.info? e with
   |some inf=>if 0<inf.size then some (.slc inf.size x lo hi)else none
   |none=>none
  |_,_,_,_=>none
 | .convert src dst x=>match P.underlying src,P.underlying dst,aI x with
  |some (.int _),some (.int k),some x=>some (.cvt k x)
  |_,_,_=>none
 | .call {callee:= .builtin .append,args:=⟨[x,y]⟩,argTypes:=⟨[t,t2]⟩}=>match P.underlying t,aI x,aI y with
  |some (.slice e),some x,some y=>match P.info? e,zeroCells P e with
   |some inf,some z=>if t=t2/\z.length=inf.size/\0<inf.size then some (.app e inf.size inf.bytes z x y)else none
   |_,_=>none
  |_,_,_=>none
 | .call {callee:= .builtin .copy,args:=⟨[x,y]⟩,argTypes:=⟨[t,_]⟩}=>match P.underlying t,aI x,aI y with
  |some (.slice e),some x,some y=>match P.info? e with
   |some inf=>if 0<inf.size then some (.cpy inf.size x y)else none
   |none=>none
  |_,_,_=>none
 | .call {callee:= .builtin .max,args:=⟨[x,y]⟩,.. }=>match aI x,aI y with|some x,some y=>some (.mx true x y)|_,_=>none
 | .call {callee:= .builtin .min,args:=⟨[x,y]⟩,.. }=>match aI x,aI y with|some x,some y=>some (.mx false x y)|_,_=>none
 | .nilCheck x=>(aI x).map .nck
 | .call {callee:= .value (.func f),args:=⟨xs⟩,.. }=>(aCe xs).map (.call f)
 |_=>none
def AV.cells:AV->Option (List AV)
 | .unk| .und| .tup _| .own _ _ _ _=>none
 | .agg vs=>some vs
 |v=>some [v]
def aT(cs:List AV)(o:Nat):List AV->List AV
 |[]=>cs
 |v::vs=>aT (cs.set o v) (o+1) vs
def bY(ag:Bool)(cs:List AV)(o m:Nat):AV:=match ag with
 |true=> .agg ((cs.drop o).take m)
 |false=>cs.getD o .unk
def aR(z:List AV):Nat->List AV
 |0=>[]
 |k+1=>z++aR z k
def eC(env:List AV)(cs:List AV):List (Nat×Nat×Opd)->Option (List AV)
 |[]=>some cs
 |(off,sz,x)::ps=>match (x.val env).cells with
  |some vs=>if vs.length=sz/\off+sz<=cs.length then eC env (aT cs off vs) ps else none
  |none=>none
def dY(env:List AV)(x:Option Opd)(d:Int):Option Int:=match x with
 |none=>some d
 |some x=>match x.val env with
  | .int _ z=>some z
  |_=>none
def aGg(H:Heap)(e:TypeId)(sz:Nat):AV->Option (Nat×List AV×Nat×List Nat)
 | .sref r π o n sz'=>match H.get r π with
  |some t=>if sz'=sz/\o=0/\t.e=e/\t.cs.length=n*sz then some (n,t.cs,r,π)else none
  |none=>none
 |_=>none
def cY(H:Heap)(sz:Nat):AV->Option (Nat×List AV)
 | .nil=>some (0,[])
 | .emp=>some (0,[])
 | .sref r π o m sz'=>match H.get r π with
  |some t=>if sz'=sz/\o+m*sz<=t.cs.length then some (m,((refer r π 0 t.cs).drop o).take (m*sz))else none
  |none=>none
 | .bor m cs=>if cs.length=m*sz then some (m,cs)else none
 |_=>none
def uX(op:BinOp)(k:IntKind)(a b:Int)(K:AV->Prop):Prop:=
 match op with
 | .add=>K (.int k (k.wrap (a+b)))
 | .sub=>K (.int k (k.wrap (a-b)))
 | .mul=>K (.int k (k.wrap (a*b)))
 | .and=>K (.int k (bits .and k a b))
 | .or=>K (.int k (bits .or k a b))
 | .xor=>K (.int k (bits .xor k a b))
 | .andNot=>K (.int k (bits .andNot k a b))
 | .quo=>b≠0/\K (.int k (k.wrap (a.tdiv b)))
 | .rem=>b≠0/\K (.int k (a.tmod b))
 | .eql=>K (.bool (decide (a=b)))
 | .neq=>K (.bool (!decide (a=b)))
 | .lss=>K (.bool (decide (a<b)))
 | .leq=>K (.bool (decide (a<=b)))
 | .gtr=>K (.bool (decide (b<a)))
 | .geq=>K (.bool (decide (b<=a)))
 |_=>False
def xun(op:UnOp)(x:AV)(K:AV->Prop):Prop:=
 match op,x with
 | .not,.bool b=>K (.bool (!b))
 | .neg,.int k a=>K (.int k (k.wrap (0-a)))
 |_,_=>False
def Inl(P:Program)(f:FuncId)(args:List AV)(H:Heap)(n:Nat)(r:AV)(H':Heap)(n':Nat):Prop:=∀(Φ:Fz) (w:World) (β:Spots) (vs:List Value),Keep Φ w->RH Φ n β H w->RVt Φ n β args vs->Calls P f vs.toArray w λe w'=>∃v Φ' β',e= .returned v/\n<=n'/\(∀i,i<n->β' i=β i)/\Φ.le Φ'/\Keep Φ' w'/\RV Φ' n' β' r v/\RH Φ' n' β' H' w'/\Below 0 w w'
def tX(xs ys:List AV):List (Nat×Bool)->Option Bool
 |[]=>some true
 |(o,t)::os=>match t,xs.getD o .unk,ys.getD o .unk,tX xs ys os with
  |false,.int k a,.int k' b,some r=>if k=k' then some (decide (a=b)&&r)else none
  |true,.bool a,.bool b,some r=>some ((a==b)&&r)
  |_,_,_,_=>none
def xop(P:Program)(env:List AV)(H:Heap)(n:Nat)(K:AV->Heap->Nat->Prop):LOp->Prop
 | .mv x=>K (x.val env) H n
 | .pick c a b=>match c.val env with
  | .bool t=>if t=true then K (a.val env) H n else K (b.val env) H n
  |_=>False
 | .box e x=>match (x.val env).cells with
  |some cs=>K (.ptr n [] 0) ((n,some ⟨e,cs⟩)::H) (n+1)
  |none=>False
 | .fresh e z=>K (.ptr n [] 0) ((n,some ⟨e,z⟩)::H) (n+1)
 | .bld z ps=>match eC env z ps with
  |some cs=>K (.agg cs) H n
  |none=>False
 | .bsl e sz m z ps=>match eC env (aR z m) ps with
  |some cs=>K (.sref n [] 0 m sz) ((n,some ⟨e,cs⟩)::H) (n+1)
  |none=>False
 | .load ag m a=>match a.val env with
  | .ptr r π o=>match H.get r π with
   |some t=>o+m<=t.cs.length/\(ag=false->m=1)/\K (bY ag (refer r π 0 t.cs) o m) H n
   |none=>False
  | .bptr cs o=>o+m<=cs.length/\(ag=false->m=1)/\K (bY ag cs o m) H n
  |_=>False
 | .store m a x=>match a.val env,(x.val env).cells with
  | .ptr r π o,some vs=>match H.get r π with
   |some t=>vs.length=m/\o+m<=t.cs.length/\K .und (H.put r π (aT t.cs o vs)) n
   |none=>False
  |_,_=>False
 | .bin op x y=>match x.val env,y.val env with
  | .int k a,.int k' b=>k=k'/\uX op k a b λv=>K v H n
  |_,_=>False
 | .binb ng x y=>match x.val env,y.val env with
  | .bool a,.bool b=>K (.bool (match ng with|true=>!(a==b)|false=>a==b)) H n
  |_,_=>False
 | .un op x=>xun op (x.val env) λv=>K v H n
 | .mk e sz bytes z l=>match l.val env with
  | .int .i64 m=>(0<=m/\m*bytes<=2^47/\m<=2^47)/\K (.sref n [] 0 m.toNat sz) ((n,some ⟨e,aR z m.toNat⟩)::H) (n+1)
  |_=>False
 | .slc sz x lo hi=>match dY env lo 0 with
  |some l=>match x.val env with
   | .nil=>match dY env hi 0 with
    |some h=>(l=0/\h=0)/\K .nil H n
    |none=>False
   | .sref r π o m sz'=>match dY env hi m with
    |some h=>(sz'=sz/\0<=l/\l<=h/\h<=m)/\K (.sref r π (o+l.toNat*sz) (h.toNat-l.toNat) sz) H n
    |none=>False
   | .bor m cs=>match dY env hi m with
    |some h=>(cs.length=m*sz/\0<=l/\l<=h/\h<=m)/\K (.bor (h.toNat-l.toNat) ((cs.drop (l.toNat*sz)).take ((h.toNat-l.toNat)*sz))) H n
    |none=>False
   |_=>False
  |none=>False
 | .cvt k x=>match x.val env with
  | .int _ z=>K (.int k (k.wrap z)) H n
  |_=>False
 | .fadr off x=>match x.val env with
  | .ptr r π o=>K (.ptr r π (o+off)) H n
  | .bptr cs o=>K (.bptr cs (o+off)) H n
  |_=>False
 | .fld ag off m x=>match x.val env with
  | .agg cs=>off+m<=cs.length/\(ag=false->m=1)/\K (bY ag cs off m) H n
  |_=>False
 | .iadr sz x i=>match x.val env,i.val env with
  | .sref r π o m sz',.int _ k=>(sz'=sz/\0<=k/\k<m)/\K (.ptr r π (o+k.toNat*sz)) H n
  | .bor m cs,.int _ k=>(0<=k/\k<m/\k.toNat*sz<cs.length)/\K (.bptr cs (k.toNat*sz)) H n
  |_,_=>False
 | .ext x i=>match x.val env with
  | .tup vs=>i<vs.length/\K (vs.getD i .unk) H n
  |_=>False
 | .len x=>match x.val env with
  | .sref _ _ _ m _=>K (.int .i64 m) H n
  | .bor m _=>K (.int .i64 m) H n
  | .nil=>K (.int .i64 0) H n
  | .emp=>K (.int .i64 0) H n
  |_=>False
 | .app e sz bytes _z s x=>match cY H sz (x.val env)with
  |some (m,ds)=>match s.val env with
   | .nil=>(m*bytes<=2^47/\m<=2^47)/\K (.sref n [] 0 m sz) ((n,some ⟨e,ds⟩)::H) (n+1)
   | .emp=>(m*bytes<=2^47/\m<=2^47)/\K (.sref n [] 0 m sz) ((n,some ⟨e,ds⟩)::H) (n+1)
   |v=>match aGg H e sz v with
    |some (l,cs,r,π)=>((l+m)*bytes<=2^47/\l+m<=2^47)/\K (.sref n [] 0 (l+m) sz) ((n,some ⟨e,cs++ds⟩)::H.kill r π) (n+1)
    |none=>False
  |none=>False
 | .sh left x y=>match x.val env,y.val env with
  | .int k a,.int _ b=>0<=b/\K (.int k (match left with|true=>k.wrap (a*2^(min b.toNat k.bits))|false=>a.fdiv (2^(min b.toNat k.bits)))) H n
  |_,_=>False
 | .beq ng offs x y=>match x.val env,y.val env with
  | .agg xs,.agg ys=>match tX xs ys offs with
   |some r=>K (.bool (match ng with|true=>!r|false=>r)) H n
   |none=>False
  |_,_=>False
 | .nck x=>match x.val env with
  | .ptr r π o=>K (.ptr r π o) H n
  | .bptr cs o=>K (.bptr cs o) H n
  |_=>False
 | .mx most x y=>match x.val env,y.val env with
  | .int k a,.int k' b=>k=k'/\K (.int k (match most with|true=>max a b|false=>min a b)) H n
  |_,_=>False
 | .cpy sz d s=>match cY H sz (s.val env)with
  |some (m2,ds)=>match d.val env with
   | .sref r π o m sz'=>match H.get r π with
    |some t=>(sz'=sz/\o+m*sz<=t.cs.length)/\K (.int .i64 (min m m2:Nat)) (H.put r π (aT t.cs o (ds.take (min m m2*sz)))) n
    |none=>False
   | .nil=>K (.int .i64 0) H n
   | .emp=>K (.int .i64 0) H n
   |_=>False
  |none=>False
 | .call f xs=>∃r H' n',Inl P f (xs.map (·.val env)) H n r H' n'/\K r H' n'
def put(env:List AV)(d:Option Nat)(v:AV):List AV:=match d with
 |some d=>env.set d v
 |none=>env
def eX(P:Program)(K:List AV->Heap->Nat->Prop):List LOper->List AV->Heap->Nat->Prop
 |[],env,H,n=>K env H n
 |o::os,env,H,n=>match o.g with
  |none=>xop P env H n (λv H' n'=>eX P K os (put env o.dst v) H' n') o.op
  |some (t,want)=>match env.getD t .unk with
   | .bool b=>if b=want then xop P env H n (λv H' n'=>eX P K os (put env o.dst v) H' n') o.op else eX P K os (put env o.dst .und) H n
   | .und=>eX P K os (put env o.dst .und) H n
   |_=>False
section
variable {P : Program} {Φ : Fz} {n : Nat} {β : Spots} {env : List AV} {H : Heap} {a : Act} {w : World}
structure Env (Φ : Fz) (n : Nat) (β : Spots) (env : List AV) (a : Act) : Prop where
 rel:∀t,RV Φ n β (env.getD t .unk) (a.tmps.getD t undef)
 len:env.length=a.tmps.size
theorem Env.more{Φ':Fz}{n':Nat}{β':Spots}(h:Env Φ n β env a)(hΦ:Φ.le Φ')(hn:n<=n')(hb:∀i,i<n->β' i=β i):Env Φ' n' β' env a:=⟨λt=>(h.rel t).more hΦ hn hb,h.len⟩
theorem Env.put{d:Option Nat}{x:AV}{v:Value}(h:Env Φ n β env a)(hx:RV Φ n β x v):Env Φ n β (put env d x) (a.put d v):=by
 (cases d with|none=>exact h|some d=>refine⟨λt=>?_,by simpa[Go.Proofs.YtcgggihjcelmhaaGreat.put,Act.put]using h.len⟩;have h0:=h.rel t;have hl:=h.len;simp only[Go.Proofs.YtcgggihjcelmhaaGreat.put,Act.put];by_cases e:d=t/\t<env.length;{obtain⟨rfl,e⟩:=e;rw[fV,if_pos ⟨rfl,e⟩];rw[hl]at e;simpa[Array.getD,e]using hx};{rw[fV,if_neg e];have:(a.tmps.setIfInBounds d v).getD t undef=a.tmps.getD t undef:=(by by_cases e1:d=t;{subst e1;have:¬d<a.tmps.size:=(by rw[<-hl];exact λh=>e ⟨rfl,h⟩);simp[Array.getD,this]};{simp only[Array.getD,Array.size_setIfInBounds];split;{rename_i ht;exact Array.getElem_setIfInBounds_ne ht e1};{rfl}});rw[this];exact h0})
mutual
theorem aLc:∀{v:Value} {x:AV},dL v=some x->RV Φ n β x v
 | .bool b,x,h=>by simp only[dL,w7.injEq]at h;subst h;simp[RV]
 | .int k z,x,h=>by simp only[dL]at h;split at h;{simp only[w7.injEq]at h;subst h;simpa[RV]};{cases h}
 | .slice none 0 0,x,h=>by simp only[dL,w7.injEq]at h;subst h;simp[RV]
 | .agg ⟨cs⟩,x,h=>by simp only[dL]at h;obtain⟨xs,h1,rfl⟩:=w9.1 h;simp only[RV];exact⟨_,rfl,fP h1⟩
 | .slice (some _) _ _,x,h=>by simp[dL]at h
 | .slice none (_+1) _,x,h=>by simp[dL]at h
 | .slice none 0 (_+1),x,h=>by simp[dL]at h
 | .float _ _,x,h=>by simp[dL]at h
 | .complex _ _ _,x,h=>by simp[dL]at h
 | .string _,x,h=>by simp[dL]at h
 | .pointer none,x,h=>by simp only[dL,w7.injEq]at h;subst h;simp[RV]
 | .pointer (some _),x,h=>by simp[dL]at h
 | .map _,x,h=>by simp[dL]at h
 | .chan _,x,h=>by simp[dL]at h
 | .func _ _ _,x,h=>by simp[dL]at h
 | .nilFunc,x,h=>by simp[dL]at h
 | .iface _ _,x,h=>by simp[dL]at h
 | .nilIface,x,h=>by simp[dL]at h
 | .tuple _,x,h=>by simp[dL]at h
theorem fP:∀{vs:List Value} {xs:List AV},tD vs=some xs->RVs Φ n β xs vs
 |[],xs,h=>by simp only[tD,w7.injEq]at h;subst h;simp[RVs]
 |v::vs,xs,h=>by simp only[tD]at h;split at h;{rename_i ho;split at h;{rename_i x xs' h1 h2;simp only[w7.injEq]at h;subst h;simp only[RVs];exact⟨v,vs,rfl,ho,aLc h1,fP h2⟩};{cases h}};{cases h}
end
theorem aK(he:Env Φ n β env a){x:Operand}{y:Opd}(h:aI x=some y):RV Φ n β (y.val env) (a.eval x):=by
 (cases x with|tmp t=>simp only[aI,w7.injEq]at h;subst h;exact he.rel t|const v=>simp only[aI]at h;obtain⟨x,h1,rfl⟩:=w9.1 h;exact aLc h1|global g=>simp[aI]at h|func f=>simp[aI]at h)
theorem aAf(he:Env Φ n β env a):∀{xs:List Operand} {ys:List Opd},aCe xs=some ys->RVt Φ n β (ys.map (·.val env)) (xs.map a.eval)
 |[],ys,h=>by simp only[aCe,w7.injEq]at h;subst h;simp[RVt]
 |x::xs,ys,h=>by simp only[aCe]at h;split at h;{rename_i y ys' h1 h2;simp only[w7.injEq]at h;subst h;simp only[m5,RVt];exact⟨_,_,rfl,aK he h1,aAf he h2⟩};{cases h}
theorem RVs.one{x:AV}{v:Value}(h:RV Φ n β x v)(ho:v.oneCell'=true):RVs Φ n β [x] [v]:=by simp only[RVs];exact⟨v,[],rfl,ho,h,rfl⟩
theorem aFi{x:AV}{v:Value}{cs:List AV}(h:x.cells=some cs)(hx:RV Φ n β x v):RVs Φ n β cs v.cells.toList:=by
 cases x<;>simp only[AV.cells,w7.injEq,reduceCtorEq]at h<;>subst h
 case nil=>have e:=hx;simp only[RV]at e;subst e;exact RVs.one hx rfl
 case emp=>have e:=hx;simp only[RV]at e;obtain⟨s,rfl⟩:=e;exact RVs.one hx rfl
 case bool b=>have e:=hx;simp only[RV]at e;subst e;exact RVs.one hx rfl
 case int k z=>have e:=hx;simp only[RV]at e;obtain⟨rfl,_⟩:=e;exact RVs.one hx rfl
 case ptr r π o=>have e:=hx;simp only[RV]at e;obtain⟨_,_,rfl⟩:=e;exact RVs.one hx rfl
 case sref r π o m sz=>have e:=hx;simp only[RV]at e;obtain⟨_,s,cap,rfl,_⟩:=e;exact RVs.one hx rfl
 case bor m cs=>have e:=hx;simp only[RV]at e;obtain⟨s,cap,vs,rfl,_⟩:=e;exact RVs.one hx rfl
 case bptr cs o=>have e:=hx;simp only[RV]at e;obtain⟨s,p,vs,rfl,_⟩:=e;exact RVs.one hx rfl
 case agg vs=>simp only[RV]at hx;obtain⟨arr,rfl,h⟩:=hx;simpa[Value.cells]using h
theorem gO(b p o:Nat):(⟨b,p,none⟩:Addr).add o=⟨b,p+o,none⟩:=by unfold Addr.add;split<;>simp_all
def xT(P:Program)(o:Oper)(a:Act)(Φ:Fz)(n:Nat)(β:Spots)(K:AV->Heap->Nat->Prop)(w:World):Prop:=∃nx v w' β' x H' n',(execOp a.eval o).run P w= .ok nx w'/\(nx= .value v\/(nx= .skip/\v=undef))/\K x H' n'/\n<=n'/\(∀i,i<n->β' i=β i)/\RV Φ n' β' x v/\RH Φ n' β' H' w'/\Keep Φ w'/\Below 0 w w'
def QDone(P:Program)(o:Oper)(a:Act)(Φ:Fz)(n:Nat)(β:Spots)(H:Heap)(K:AV->Heap->Nat->Prop)(w:World):Prop:=∃v x,(∀w',Below w.heap.size w w'->(execOp a.eval o).run P w'= .ok (.value v) w')/\RV Φ n β x v/\K x H n
theorem QDone.done{o:Oper}{K:AV->Heap->Nat->Prop}(hH:RH Φ n β H w)(hB:Keep Φ w)(h:QDone P o a Φ n β H K w):xT P o a Φ n β K w:=
 let⟨v,x,hr,hx,hK⟩:=h
 ⟨_,v,w,β,x,H,n,hr w (Below.refl _ _),.inl rfl,hK,k9 _,λ_ _=>rfl,hx,hH,hB,Below.refl _ _⟩
theorem aO {o:Oper} {K:AV->Heap->Nat->Prop} {x:AV} {v:Value} (hr:∀w',Below w.heap.size w w'->(execOp a.eval o).run P w'= .ok (.value v) w')
 (hx:RV Φ n β x v) (hK:K x H n):QDone P o a Φ n β H K w:=⟨v,x,hr,hx,hK⟩
theorem aBt {o:Oper} {K:AV->Heap->Nat->Prop} (hH:RH Φ n β H w) (hB:Keep Φ w) {e:TypeId} {cur:Array Value} {cs:List AV} {v:Value} {x:AV}
 (hr:(execOp a.eval o).run P w= .ok (.value v) {w with heap:=w.heap.push (.cells cur e (0,0))}) (hc:cs.length<=cur.size) (hv:RVs Φ n β cs (cur.toList.take cs.length))
 (hx:RV Φ (n+1) (λi=>if i=n then λ_=>⟨true,w.heap.size,cur.size,0⟩else β i) x v) (hK:K x ((n,some ⟨e,cs⟩)::H) (n+1)):xT P o a Φ n β K w:=
 ⟨_,v,_,_,x,_,n+1,hr,.inl rfl,hK,l9 _,λi hi=>by simp[show i≠n by omega],hx,hH.alloc hB hc hv,hB.alloc _,(Below.refl 0 w).alloc (m9 _) _⟩
theorem aQq{r:Nat}{π:List Nat}{t:Root}(hH:RH Φ n β H w)(hr:H.get r π=some t)(o:Nat)(ho:o<t.cs.length):
 ∃v,w.cell? ⟨(β r π).b,(β r π).st+o,none⟩=some v/\RV Φ n β ((refer r π 0 t.cs).getD o .unk) v/\v.oneCell'=true/\w.frozen? ⟨(β r π).b,(β r π).st+o,none⟩=false:=by
 obtain⟨h2,cur,h3,h4,h5,h6⟩:=hH.own hr (hH.full hr (by omega));have hg:=h6.get o (by rw[aY];exact ho);have e:((cur.toList.drop (β r π).st).take t.cs.length).getD o undef=cur[(β r π).st+o]'(by omega):=(by simp[x8,qQJ,t9,ho,show(β r π).st+o<cur.size by omega]);rw[e]at hg;exact⟨_,by simp[World.cell?,h3,show(β r π).st+o<cur.size by omega],hg.1,hg.2,by simp[World.frozen?,h3]⟩
theorem bFd{cs:List AV}{s:Option Addr}{vs:List Value}(hB:Keep Φ w)(h1:RowOf Φ s vs)(h2:RVs Φ n β cs vs)(o:Nat)(ho:o<cs.length):
 ∃q v,s=some q/\w.cell? (q.add o)=some v/\RV Φ n β (cs.getD o .unk) v/\v.oneCell'=true:=by
 have hl:=h2.length;rcases h1 with rfl|⟨b,p,ar,e,fz,rfl,hb,hc⟩;{simp at hl;omega};{have hg:=h2.get o ho;refine⟨_,_,rfl,?_,hg.1,hg.2⟩;rw[gO];have hb:=hB _ _ hb;have hc:=hc o (by omega);simp only[World.cell?,hb,Option.isSome_none,o8,if_false];exact hc}
theorem aHw {cs:List AV} {q:Addr} {o m:Nat} {ag:Bool} {t:TypeId} {inf:TypeInfo} (hag:aWd P t=some ag) (hi:P.info? t=some inf) (hm:inf.size=m) (ho:o+m<=cs.length) (h1:ag=false->m=1)
 (hc:∀j,j<cs.length->∃v,w.cell? (q.add j)=some v/\RV Φ n β (cs.getD j .unk) v/\v.oneCell'=true):
 ∃v,(∀w',Below w.heap.size w w'->(Instr.loadAt t (.pointer (some (q.add o)))).run P w'= .ok v w')/\RV Φ n β (bY ag cs o m) v:=by
 have hadd:∀j,(q.add o).add j=q.add (o+j):=λj=>by unfold Addr.add;by_cases h1:o=0<;>by_cases h2:j=0<;>simp[h1,h2,m4]
 obtain⟨u,hu,hue⟩:=w9.1 hag;cases ag with
 |false=>have hm1:=h1 rfl;obtain⟨v,e1,e2,_⟩:=hc o (by omega);refine⟨v,λw' hw'=>?_,e2⟩;have e1:w'.cell? (q.add o)=some v:=(hw'.cell (World.block_lt_of_cell? w _ e1)).trans e1;have:(isAgg t).run P w'= .ok false w':=(by unfold isAgg;simp only[Sem.run_bind,run_underlying hu,Result.andThen_ok];cases u<;>simp_all);simp[Instr.loadAt,Instr.sureAddr,loadVar,this,e1]
 |true=>
  have hia:∀w',(isAgg t).run P w'= .ok true w':=λw'=>by unfold isAgg;simp only[Sem.run_bind,run_underlying hu,Result.andThen_ok];cases u<;>simp_all
  have hex:∀j,∃v,j<m->w.cell? ((q.add o).add j)=some v/\RV Φ n β (cs.getD (o+j) .unk) v/\v.oneCell'=true:=λj=>by by_cases hj:j<m;{obtain⟨v,e1,e2,e3⟩:=hc (o+j) (by omega);exact⟨v,λ_=>⟨by rw[hadd];exact e1,e2,e3⟩⟩};{exact⟨undef,λh=>absurd h hj⟩}
  let f:Nat->Value:=λj=>Classical.choose (hex j);have hf:∀j,j<m->w.cell? ((q.add o).add j)=some (f j)/\RV Φ n β (cs.getD (o+j) .unk) (f j)/\(f j).oneCell'=true:=λj hj=>Classical.choose_spec (hex j) hj;refine⟨.agg ((u7 m).map f).toArray,λw' hw'=>?_,?_⟩;{have hl:=run_loadCells (P:=P) w' (q.add o) m f (λj hj=>(hw'.cell (World.block_lt_of_cell? w _ (hf j hj).1)).trans (hf j hj).1);simp[Instr.loadAt,Instr.sureAddr,loadVar,hia,sizeOf,typeInfo,hi,hm,hl]};{simp only[bY,RV];refine⟨_,rfl,RVs.of_get (by simp;omega) λi hi=>?_⟩;simp only[m7,p8]at hi;have:=hf i (by omega);simpa[x8,qQJ,t9,List.getElem?_map,List.getElem?_range,show i<m by omega]using this.2}
end
section
variable {P : Program} {Φ : Fz} {n : Nat} {β : Spots} {env : List AV} {H : Heap} {a : Act} {w : World} {K : AV → Heap → Nat → Prop}
theorem gW{t:TypeId}{z:List AV}(h:Go.Proofs.YtcgggihjcelmhaaGreat.zeroCells P t=some z):∃inf v,P.info? t=some inf/\inf.zero=some v/\tD v.cells.toList=some z:=by unfold Go.Proofs.YtcgggihjcelmhaaGreat.zeroCells at h;obtain⟨v,h1,h2⟩:=Option.bind_eq_some_iff.1 h;obtain⟨inf,h3,h4⟩:=Option.bind_eq_some_iff.1 h1;exact⟨inf,v,h3,h4,h2⟩
theorem RVs.take_length{cs:List AV}{vs:List Value}(h:RVs Φ n β cs vs):RVs Φ n β cs (vs.take cs.length):=by rw[List.take_of_length_le (by rw[h.length];omega)];exact h
theorem aZp {o:Oper} {x:Operand} {y:Opd} (ho:o.op= .move x\/o.op= .assign x) (hx:aI x=some y) (he:Env Φ n β env a) (hH:RH Φ n β H w) (hB:Keep Φ w)
 (h:xop P env H n K (.mv y)):QDone P o a Φ n β H K w:=by
 refine aO (v:=a.eval x) (λw' _=>?_) (aK he hx) h;rcases ho with ho|ho<;>simp[execOp,ho]
theorem bGr {o:Oper} {c x y:Operand} {c' x' y':Opd} (ho:o.op= .pick c x y) (hc:aI c=some c') (hx:aI x=some x') (hy:aI y=some y') (he:Env Φ n β env a)
 (hH:RH Φ n β H w) (hB:Keep Φ w) (h:xop P env H n K (.pick c' x' y')):QDone P o a Φ n β H K w:=by
 have h0:=aK he hc;simp only[xop]at h;split at h;{rename_i t ht;rw[ht]at h0;simp only[RV]at h0;(cases t with|true=>exact aO (v:=a.eval x) (λw' _=>by simp[execOp,ho,h0,asBool]) (aK he hx) (by simpa using h)|false=>exact aO (v:=a.eval y) (λw' _=>by simp[execOp,ho,h0,asBool]) (aK he hy) (by simpa using h))};{exact h.elim}
theorem cEa {o:Oper} {e:TypeId} {x:Operand} {y:Opd} (ho:o.op= .box e x) (hx:aI x=some y) (he:Env Φ n β env a) (hH:RH Φ n β H w) (hB:Keep Φ w)
 (h:xop P env H n K (.box e y)):xT P o a Φ n β K w:=by
 simp only[xop]at h;split at h;{rename_i cs hcs;have hv:=aFi hcs (aK he hx);have hl:=hv.length;simp only[Array.length_toList]at hl;refine aBt hH hB (cur:=(a.eval x).cells) (v:= .pointer (some ⟨w.heap.size,0,none⟩)) (x:= .ptr n [] 0) ?_ (by omega) hv.take_length ?_ h;{simp[execOp,ho,Instr.box,newVar,newRow]};{simp[RV]}};{exact h.elim}
theorem bTh {o:Oper} {e:TypeId} {z:List AV} (ho:o.op= .alloc e) (hz:Go.Proofs.YtcgggihjcelmhaaGreat.zeroCells P e=some z) (hH:RH Φ n β H w) (hB:Keep Φ w)
 (h:xop P env H n K (.fresh e z)):xT P o a Φ n β K w:=by
 simp only[xop]at h;obtain⟨inf,v,h1,h2,h3⟩:=gW hz;have hv:=fP (Φ:=Φ) (n:=n) (β:=β) h3;have hl:=hv.length;simp only[Array.length_toList]at hl;refine aBt hH hB (cur:=v.cells) (v:= .pointer (some ⟨w.heap.size,0,none⟩)) (x:= .ptr n [] 0) ?_ (by omega) hv.take_length ?_ h;{simp[execOp,ho,Instr.alloc,newVar,newRow,zeroValue,typeInfo,h1,h2]};{simp[RV]}
theorem bHk {o:Oper} {t:TypeId} {x:Operand} {y:Opd} {ag:Bool} {inf:TypeInfo} (ho:o.op= .load t x) (hag:aWd P t=some ag) (hi:P.info? t=some inf) (hx:aI x=some y)
 (he:Env Φ n β env a) (hH:RH Φ n β H w) (hB:Keep Φ w) (h:xop P env H n K (.load ag inf.size y)):QDone P o a Φ n β H K w:=by
 have h0:=aK he hx;simp only[xop]at h;split at h;{rename_i r π p hp;rw[hp]at h0;simp only[RV]at h0;split at h;{rename_i t' hr;obtain⟨h1,h2,h3⟩:=h;obtain⟨v,hv1,hv2⟩:=aHw (cs:=refer r π 0 t'.cs) (q:=⟨(β r π).b,(β r π).st,none⟩) (o:=p) hag hi rfl (by rw[aY];exact h1) h2 (λj hj=>by obtain⟨v,e1,e2,e3,_⟩:=aQq hH hr j (by rw[aY]at hj;exact hj);exact⟨v,by rw[gO];exact e1,e2,e3⟩);rw[gO]at hv1;exact aO (v:=v) (λw' hw'=>by simp[execOp,ho,h0.2.2,hv1 w' hw']) hv2 h3};{exact h.elim}}
 · rename_i cs p hp
   rw[hp]at h0;simp only[RV]at h0;obtain⟨h1,h2,h3⟩:=h;obtain⟨s,q,vs,h4,h5,h6,h7⟩:=h0;by_cases hcs:cs=[]
   · subst hcs
     simp only[l7]at h1;obtain⟨u,hu,hue⟩:=w9.1 hag;have hm:inf.size=0:=(by omega);have hp0:p=0:=(by omega);cases ag with
     |false=>have:=h2 rfl;omega
     |true=>
      have:∀w',(isAgg t).run P w'= .ok true w':=λw'=>by unfold isAgg;simp only[Sem.run_bind,run_underlying hu,Result.andThen_ok];cases u<;>simp_all
      refine aO (v:= .agg #[]) (λw' _=>?_) ?_ h3;{simp[execOp,ho,h4,Instr.loadAt,Instr.sureAddr,loadVar,this,sizeOf,typeInfo,hi,hm,loadCells,loadCellsFrom]};{simp[bY,RV,RVs]}
   {have hpos:0<cs.length:=(by cases cs<;>simp_all);obtain⟨q0,_,rfl,_⟩:=bFd hB h5 h6 0 hpos;obtain⟨v,hv1,hv2⟩:=aHw (q:=q0) (o:=p) hag hi rfl h1 h2 (λj hj=>by obtain⟨q1,v,e0,e1,e2,e3⟩:=bFd hB h5 h6 j hj;cases e0;exact⟨v,e1,e2,e3⟩);rw[<-h7 q0 rfl]at hv1;exact aO (v:=v) (λw' hw'=>by simp[execOp,ho,h4,hv1 w' hw']) hv2 h3}
 {exact h.elim}
theorem bIo(k:IntKind):k.min<=0/\0<=k.max:=by cases k<;>simp[IntKind.min,IntKind.max,IntKind.signed,IntKind.bits]
theorem bRi{k:IntKind}{a b:Int}(ha:k.min<=a/\a<=k.max):k.min<=a.tmod b/\a.tmod b<=k.max:=by
 have hm:=bIo k;have:=Int.natAbs_tmod a b;have h2:a.natAbs%b.natAbs<=a.natAbs:=Nat.mod_le _ _;rcases Int.le_total 0 a with h|h;{have h3:=Int.tmod_nonneg b h;omega}
 · have h3:a.tmod b<=0:=by
    have:=Int.tmod_nonneg b (show 0<=-a by omega);rw[Int.neg_tmod]at this;omega
   omega
theorem bNr {o:Oper} {op:BinOp} {t t':TypeId} {x y:Operand} {x' y':Opd} (ho:o.op= .binOp op t x y t') (hx:aI x=some x') (hy:aI y=some y')
 (he:Env Φ n β env a) (hH:RH Φ n β H w) (hB:Keep Φ w) (h:xop P env H n K (.bin op x' y')):QDone P o a Φ n β H K w:=by
 have h0:=aK he hx;have h1:=aK he hy;simp only[xop]at h;split at h
 · rename_i k z k' z' e1 e2
   rw[e1]at h0;rw[e2]at h1;simp only[RV]at h0 h1;obtain⟨rfl,h⟩:=h;have hdec:(z==z')=decide (z=z'):=(by rw[Bool.eq_iff_iff];simp);have hg:∀w',(eqGuard op t x y (.int k z) (.int k z')).run P w'= .ok () w':=λw'=>by unfold eqGuard;cases op<;>simp
   cases op<;>simp only[uX]at h
   case add=>exact aO (v:= .int k (k.wrap (z+z'))) (λw' _=>by simp[execOp,ho,h0.1,h1.1,hg,binOp,Op.intArith]) (by simp[RV,wrap_within]) h
   case sub=>exact aO (v:= .int k (k.wrap (z-z'))) (λw' _=>by simp[execOp,ho,h0.1,h1.1,hg,binOp,Op.intArith]) (by simp[RV,wrap_within]) h
   case mul=>exact aO (v:= .int k (k.wrap (z*z'))) (λw' _=>by simp[execOp,ho,h0.1,h1.1,hg,binOp,Op.intArith]) (by simp[RV,wrap_within]) h
   case and=>exact aO (v:= .int k (bits .and k z z')) (λw' _=>by simp[execOp,ho,h0.1,h1.1,hg,binOp_and,intBits_and]) (by simp[RV,bits_within]) h
   case or=>exact aO (v:= .int k (bits .or k z z')) (λw' _=>by simp[execOp,ho,h0.1,h1.1,hg,binOp_or,intBits_or]) (by simp[RV,bits_within]) h
   case xor=>exact aO (v:= .int k (bits .xor k z z')) (λw' _=>by simp[execOp,ho,h0.1,h1.1,hg,binOp_xor,intBits_xor]) (by simp[RV,bits_within]) h
   case andNot=>exact aO (v:= .int k (bits .andNot k z z')) (λw' _=>by simp[execOp,ho,h0.1,h1.1,hg,binOp_andNot,intBits_andNot]) (by simp[RV,bits_within]) h
   case quo=>exact aO (v:= .int k (k.wrap (z.tdiv z'))) (λw' _=>by simp[execOp,ho,h0.1,h1.1,hg,binOp,Op.intDiv,h.1]) (by simp[RV,wrap_within]) h.2
   case rem=>exact aO (v:= .int k (z.tmod z')) (λw' _=>by simp[execOp,ho,h0.1,h1.1,hg,binOp,Op.intDiv,h.1]) (by simp only[RV];exact⟨trivial,bRi h0.2⟩) h.2
   case eql=>exact aO (v:= .bool (decide (z=z'))) (λw' _=>by simp[execOp,ho,h0.1,h1.1,hg,binOp,Op.intCmp,hdec]) (by simp[RV]) h
   case neq=>exact aO (v:= .bool (!decide (z=z'))) (λw' _=>by simp[execOp,ho,h0.1,h1.1,hg,binOp,Op.intCmp,bne,hdec]) (by simp[RV]) h
   case lss=>exact aO (v:= .bool (decide (z<z'))) (λw' _=>by simp[execOp,ho,h0.1,h1.1,hg,binOp,Op.intCmp]) (by simp[RV]) h
   case leq=>exact aO (v:= .bool (decide (z<=z'))) (λw' _=>by simp[execOp,ho,h0.1,h1.1,hg,binOp,Op.intCmp]) (by simp[RV]) h
   case gtr=>exact aO (v:= .bool (decide (z'<z))) (λw' _=>by simp[execOp,ho,h0.1,h1.1,hg,binOp,Op.intCmp]) (by simp[RV]) h
   case geq=>exact aO (v:= .bool (decide (z'<=z))) (λw' _=>by simp[execOp,ho,h0.1,h1.1,hg,binOp,Op.intCmp]) (by simp[RV]) h
 {exact h.elim}
theorem aWe{t:TypeId}(hu:P.underlying t=some .bool)(b b':Bool):(Op.equal t (.bool b) (.bool b')).run P w= .ok (b==b') w:=by show(Op.equalIn (9999+1) t (.bool b) (.bool b')).run P w=_;rw[Op.equalIn];simp[run_underlying hu]
theorem aNj {o:Oper} {ng:Bool} {op:BinOp} {t t':TypeId} {x y:Operand} {x' y':Opd} (ho:o.op= .binOp op t x y t') (hu:P.underlying t=some .bool) (hop:op=match ng with|true=> .neq|false=> .eql)
 (hx:aI x=some x') (hy:aI y=some y') (he:Env Φ n β env a) (hH:RH Φ n β H w) (hB:Keep Φ w) (h:xop P env H n K (.binb ng x' y')):QDone P o a Φ n β H K w:=by
 have h0:=aK he hx;have h1:=aK he hy;simp only[xop]at h;split at h
 · rename_i b b' e1 e2
   rw[e1]at h0;rw[e2]at h1;simp only[RV]at h0 h1;have hq:=λw'=>aWe (w:=w') hu b b';subst hop;cases ng
   · have hg:∀w',(eqGuard .eql t x y (.bool b) (.bool b')).run P w'= .ok () w':=λw'=>by unfold eqGuard;simp
     have hb:∀w',(binOp .eql t (.bool b) (.bool b')).run P w'= .ok (.bool (b==b')) w':=λw'=>by show(do pure (Value.bool (<-Op.equal t (.bool b) (.bool b')))).run P w'=_;simp only[Sem.run_bind,hq,Result.andThen_ok,Sem.run_pure]
     exact aO (v:= .bool (b==b')) (λw' _=>by simp only[execOp,ho,h0,h1,Sem.run_bind,hg,hb,Result.andThen_ok,Sem.run_pure]) (by simp[RV]) h
   · have hg:∀w',(eqGuard .neq t x y (.bool b) (.bool b')).run P w'= .ok () w':=λw'=>by unfold eqGuard;simp
     have hb:∀w',(binOp .neq t (.bool b) (.bool b')).run P w'= .ok (.bool (!(b==b'))) w':=λw'=>by show(do pure (Value.bool (!(<-Op.equal t (.bool b) (.bool b'))))).run P w'=_;simp only[Sem.run_bind,hq,Result.andThen_ok,Sem.run_pure]
     exact aO (v:= .bool (!(b==b'))) (λw' _=>by simp only[execOp,ho,h0,h1,Sem.run_bind,hg,hb,Result.andThen_ok,Sem.run_pure]) (by simp[RV]) h
 {exact h.elim}
theorem bWq {o:Oper} {op:UnOp} {t:TypeId} {x:Operand} {x':Opd} (ho:o.op= .unOp op t x) (hx:aI x=some x')
 (he:Env Φ n β env a) (hH:RH Φ n β H w) (hB:Keep Φ w) (h:xop P env H n K (.un op x')):QDone P o a Φ n β H K w:=by
 have h0:=aK he hx;simp only[xop,xun]at h;split at h;{rename_i b e1;rw[e1]at h0;simp only[RV]at h0;exact aO (v:= .bool (!b)) (λw' _=>by simp[execOp,ho,h0,Op.unary]) (by simp[RV]) h};{rename_i k z e1;rw[e1]at h0;simp only[RV]at h0;exact aO (v:= .int k (k.wrap (0-z))) (λw' _=>by simp[execOp,ho,h0.1,Op.unary,Op.intArith]) (by simp[RV,wrap_within]) h};{exact h.elim}
theorem bHy {o:Oper} {t:TypeId} {x:Operand} {x':Opd} {i:Nat} {fs:Array Field} {f:Field} {inf:TypeInfo} (ho:o.op= .fieldAddr t x i) (ht:P.underlying t=some (.struct fs)) (hf:fs[i]? =some f)
 (hi:P.info? f.type=some inf) (hz:¬inf.size=0) (hx:aI x=some x')
 (he:Env Φ n β env a) (hH:RH Φ n β H w) (hB:Keep Φ w) (h:xop P env H n K (.fadr f.offset x')):QDone P o a Φ n β H K w:=by
 have h0:=aK he hx;simp only[xop]at h;split at h;{rename_i r π p e1;rw[e1]at h0;simp only[RV]at h0;exact aO (v:= .pointer (some ⟨(β r π).b,(β r π).st+(p+f.offset),none⟩)) (λw' _=>by simp[execOp,ho,h0.2.2,Instr.fieldAt,run_underlying ht,hf,Instr.sureAddr,fieldPlace,sizeOf,typeInfo,hi,hz,gO]) (by simp[RV,h0.1,h0.2.1]) h};{rename_i cs p e1;rw[e1]at h0;simp only[RV]at h0;obtain⟨s,q,vs,h4,h5,h6,h7⟩:=h0;refine aO (v:= .pointer (some (q.add f.offset))) (λw' _=>by simp[execOp,ho,h4,Instr.fieldAt,run_underlying ht,hf,Instr.sureAddr,fieldPlace,sizeOf,typeInfo,hi,hz]) ?_ h;simp only[RV];refine⟨s,_,vs,rfl,h5,h6,λq0 hq=>?_⟩;rw[h7 q0 hq];unfold Addr.add;by_cases h1:p=0<;>by_cases h2:f.offset=0<;>simp[h1,h2,m4]};{exact h.elim}
theorem bIz {o:Oper} {t e:TypeId} {x y:Operand} {x' y':Opd} {inf:TypeInfo} (ho:o.op= .indexAddr t x y) (ht:P.underlying t=some (.slice e)) (hi:P.info? e=some inf) (hx:aI x=some x') (hy:aI y=some y')
 (he:Env Φ n β env a) (hH:RH Φ n β H w) (hB:Keep Φ w) (h:xop P env H n K (.iadr inf.size x' y')):QDone P o a Φ n β H K w:=by
 have h0:=aK he hx;have h1:=aK he hy;simp only[xop]at h;split at h;{rename_i r π p m sz' k' z e1 e2;rw[e1]at h0;rw[e2]at h1;simp only[RV]at h0 h1;obtain⟨⟨rfl,h2,h3⟩,h4⟩:=h;obtain⟨g0,s,cap,g1,g2,g3,g4⟩:=h0;rcases g4 with⟨rfl,_⟩|⟨g4,rfl,g5⟩;{omega};{exact aO (v:= .pointer (some ⟨(β r π).b,(β r π).st+(p+z.toNat*inf.size),none⟩)) (λw' _=>by simp[execOp,ho,g1,h1.1,Instr.indexAt,run_underlying ht,asIntOf,h2,h3,sizeOf,typeInfo,hi,gO]) (by simp[RV,g0,g4]) h4}};{rename_i m cs k' z e1 e2;rw[e1]at h0;rw[e2]at h1;simp only[RV]at h0 h1;obtain⟨⟨h2,h3,h3'⟩,h4⟩:=h;obtain⟨s,cap,vs,g1,g2,g3,g4,g5⟩:=h0;(cases s with|none=>have hvs:vs=[]:=(by rcases g4 with h|⟨b,o,_,_,_,h,_⟩;{exact h};{cases h});subst hvs;have:=g5.length;simp only[l7]at this;omega|some q=>refine aO (v:= .pointer (some (q.add (z.toNat*inf.size)))) (λw' _=>by simp[execOp,ho,g1,h1.1,Instr.indexAt,run_underlying ht,asIntOf,h2,h3,sizeOf,typeInfo,hi]) ?_ h4;simp only[RV];exact⟨some q,_,vs,rfl,g4,g5,λq0 hq=>by cases hq;rfl⟩)};{exact h.elim}
end
section
variable {P : Program} {Φ : Fz} {n : Nat} {β : Spots} {env : List AV} {H : Heap} {a : Act} {w : World} {K : AV → Heap → Nat → Prop}
theorem RH.congr{H':Heap}(h:RH Φ n β H w)(hg:∀r π,H'.get r π=H.get r π):RH Φ n β H' w:=⟨λr π t hr=>h.root r π t (by rw[<-hg];exact hr),λr π r' π' h1 h2=>h.apart r π r' π' (by rw[<-hg];exact h1) (by rw[<-hg];exact h2)⟩
theorem aJk{H H':Heap}{r:Nat}{t:Option Root}:∀π:List Nat,Heap.get ((r,t)::H) r π=Heap.get ((r,t)::H') r π
 |[]=>by simp[Heap.get,Heap.get1]
 |i::π=>by simp only[Heap.get];rw[aJk π]
theorem bHu{H:Heap}{r:Nat}:∀{π:List Nat} {t:Root} {c1 c2:List AV},H.get r π=some t->∀r' π',((H.put r π c1).put r π c2).get r' π'=(H.put r π c2).get r' π'
 |[],t,c1,c2,h,r',π'=>by simp only[Heap.get]at h;simp only[Heap.put,h];have e:Heap.get1 ((r,some ⟨t.e,c1⟩)::H) r=some ⟨t.e,c1⟩:=(by simp[Heap.get1]);simp only[e];by_cases hr:r=r';{subst hr;exact aJk π'};{rw[bH hr,bH hr,bH hr]}
 |i::π,t,c1,c2,h,r',π'=>by simp only[Heap.get]at h;split at h;{rename_i tp htp;cases hc:tp.cs.getD i .unk<;>rw[hc]at h<;>simp only[AV.node,w7.injEq,reduceCtorEq]at h;rename_i e sz m ds;subst h;have hi:=aGc hc;have h1:H.put r (i::π) c1=H.put r π (tp.cs.set i (.own e sz m c1)):=(by simp only[Heap.put,htp,hc]);have h2:H.put r (i::π) c2=H.put r π (tp.cs.set i (.own e sz m c2)):=(by simp only[Heap.put,htp,hc]);have h3:=vP (cs:=tp.cs.set i (.own e sz m c1)) htp;have h4:(H.put r π (tp.cs.set i (.own e sz m c1))).put r (i::π) c2=(H.put r π (tp.cs.set i (.own e sz m c1))).put r π (tp.cs.set i (.own e sz m c2)):=(by have e1:(tp.cs.set i (.own e sz m c1)).getD i .unk= .own e sz m c1:=(by rw[fV,if_pos ⟨rfl,hi⟩]);rw[Heap.put];simp only[h3,e1,List.set_set]);rw[h1,h2,h4];exact bHu htp r' π'};{cases h}
theorem aSh{H:Heap}{r:Nat}:∀{π:List Nat} {t:Root},H.get r π=some t->∀r' π',(H.put r π t.cs).get r' π'=H.get r' π'
 |[],t,h,r',π'=>by
  simp only[Heap.get]at h;simp only[Heap.put,h];by_cases hr:r=r'
  · subst hr
    induction π' with
    |nil=>simp[Heap.get,Heap.get1,h]
    |cons i π' ih=>simp only[Heap.get];rw[ih]
  {rw[bH hr]}
 |i::π,t,h,r',π'=>by simp only[Heap.get]at h;split at h;{rename_i tp htp;cases hc:tp.cs.getD i .unk<;>rw[hc]at h<;>simp only[AV.node,w7.injEq,reduceCtorEq]at h;rename_i e sz m ds;subst h;have hi:=aGc hc;have hs:tp.cs.set i (.own e sz m ds)=tp.cs:=(by rw[<-hc];apply List.ext_getElem (by simp);intro j h1 h2;rw[List.getElem_set];split;{rename_i e;subst e;simp[x8,hi]};{rfl});simp only[Heap.put,htp,hc,hs];exact aSh htp r' π'};{cases h}
theorem vG{r o:Nat}{π:List Nat}:∀(xs:List AV) (vs:List Value) (i:Nat) (t:Root) (H:Heap) (w:World),RH Φ n β H w->Keep Φ w->H.get r π=some t->o+i+xs.length<=t.cs.length->RVs Φ n β xs vs->
 ∃w',(storeCells ⟨(β r π).b,(β r π).st+o,none⟩ vs i).run P w= .ok () w'/\RH Φ n β (H.put r π (aT t.cs (o+i) xs)) w'/\Keep Φ w'/\Below 0 w w'
 |[],vs,i,t,H,w,hH,hB,hr,_,hv=>by simp only[RVs]at hv;subst hv;exact⟨w,by simp[storeCells],hH.congr λr' π'=>by simp only[aT];exact aSh hr r' π',hB,Below.refl _ _⟩
 |x::xs,vs,i,t,H,w,hH,hB,hr,hl,hv=>by simp only[RVs]at hv;obtain⟨v,vs,rfl,h1,hx,hv⟩:=hv;simp only[List.length_cons]at hl;obtain⟨u,c1,c2,c3,c4⟩:=aQq hH hr (o+i) (by omega);have hst:(store ((⟨(β r π).b,(β r π).st+o,none⟩:Addr).add i) v).run P w= .ok () (w.setCell ⟨(β r π).b,(β r π).st+(o+i),none⟩ v):=(by rw[gO,m4,run_store P w _ v _ h1,c1];simp[c4]);have hH1:=hH.setCell hr (o:=o+i) (by omega) hx h1;have hB1:=hB.setCell (a:=⟨(β r π).b,(β r π).st+(o+i),none⟩) (hH.own hr (hH.full hr (by omega))).1 v;obtain⟨w',r1,r2,r3,r4⟩:=vG (r:=r) (o:=o) (π:=π) xs vs (i+1) ⟨t.e,t.cs.set (o+i) x⟩ _ _ hH1 hB1 (vP hr) (by simp;omega) hv;refine⟨w',by simp[storeCells,hst,r1],?_,r3,((Below.refl 0 w).setCell (m9 _) _).trans r4⟩;refine r2.congr λr' π'=>?_;simp only[aT];rw[m4,<-m4 o i 1]at*;exact(bHu hr r' π').symm
theorem bUp {o:Oper} {t:TypeId} {x y:Operand} {x' y':Opd} {inf:TypeInfo} (ho:o.op= .store t x y) (hi:P.info? t=some inf) (hx:aI x=some x') (hy:aI y=some y')
 (he:Env Φ n β env a) (hH:RH Φ n β H w) (hB:Keep Φ w) (h:xop P env H n K (.store inf.size x' y')):xT P o a Φ n β K w:=by
 have h0:=aK he hx;have h1:=aK he hy;simp only[xop]at h;split at h;{rename_i r π p vs e1 e2;rw[e1]at h0;simp only[RV]at h0;have hv:=aFi e2 h1;split at h;{rename_i t' hr;obtain⟨h2,h3,h4⟩:=h;have hl:=hv.length;simp only[Array.length_toList]at hl;obtain⟨w',r1,r2,r3,r4⟩:=vG (P:=P) (o:=p) vs (a.eval y).cells.toList 0 t' H w hH hB hr (by omega) hv;refine⟨.skip,undef,w',β,.und,_,n,?_,.inr ⟨rfl,rfl⟩,h4,k9 _,λ_ _=>rfl,by simp[RV],r2,r3,r4⟩;simp[execOp,ho,h0.2.2,Instr.storeAt,Instr.sureAddr,storeVar,sizeOf,typeInfo,hi,hl,h2,r1]};{exact h.elim}};{exact h.elim}
theorem zZ(z:List AV):∀m,(aR z m).length=m*z.length
 |0=>by simp[aR]
 |m+1=>by simp[aR,zZ z m,Nat.succ_mul];omega
theorem aSm(z:List AV):∀m i,i<m*z.length->(aR z m).getD i .unk=z.getD (i%z.length) .unk
 |0,i,h=>by simp at h
 |m+1,i,h=>by simp only[aR];by_cases hi:i<z.length;{rw[Nat.mod_eq_of_lt hi];simp[x8,e7 hi]};{have:i-z.length<m*z.length:=(by rw[Nat.succ_mul]at h;omega);have ih:=aSm z m (i-z.length) this;rw[Nat.mod_eq_sub_mod (by omega),<-ih];simp only[x8];rw[d9 (by omega)]}
theorem aDh{z:List AV}{zs:Array Value}(h:RVs Φ n β z zs.toList)(m:Nat):RVs Φ n β (aR z m) ((Array.range (m*zs.size)).map (zs[·%zs.size]!)).toList:=by have hl:=h.length;simp only[Array.length_toList]at hl;refine RVs.of_get (by simp[zZ,hl]) λi hi=>?_;rw[zZ]at hi;have hz:0<z.length:=(by cases z<;>simp_all);have hmod:i%z.length<z.length:=Nat.mod_lt _ hz;rw[aSm z m i hi];have hg:=h.get (i%z.length) hmod;have e:(((Array.range (m*zs.size)).map (zs[·%zs.size]!)).toList).getD i undef=zs.toList.getD (i%z.length) undef:=(by simp[x8,hl,show i<m*z.length from hi];rw[getElem!_pos zs (i%z.length) (by omega)];simp[show i%z.length<zs.size by omega]);rw[e];exact hg
theorem bWp {o:Oper} {t e:TypeId} {x y:Operand} {x':Opd} {inf:TypeInfo} {z:List AV} (ho:o.op= .makeSlice t x y) (ht:P.underlying t=some (.slice e)) (hi:P.info? e=some inf) (hz:Go.Proofs.YtcgggihjcelmhaaGreat.zeroCells P e=some z)
 (hzl:z.length=inf.size) (hx:aI x=some x') (hxy:a.eval y=a.eval x)
 (he:Env Φ n β env a) (hH:RH Φ n β H w) (hB:Keep Φ w) (h:xop P env H n K (.mk e inf.size inf.bytes z x')):xT P o a Φ n β K w:=by
 have h0:=aK he hx;obtain⟨inf',v,g1,g2,g3⟩:=gW hz;rw[hi]at g1;cases g1;have hv:=fP (Φ:=Φ) (n:=n) (β:=β) g3;have hl:=hv.length;simp only[Array.length_toList]at hl;simp only[xop]at h;split at h
 · rename_i m e1
   rw[e1]at h0;simp only[RV]at h0;obtain⟨⟨h1,h2,h3⟩,h4⟩:=h;have hr:=run_make (P:=P) w t e inf v ht hi g2 .i64 .i64 m m h1 (Int.le_refl _) (by rw[Int.mul_comm];omega) (by omega);have hms:(madeCells v.cells (m.toNat*inf.size))=(Array.range (m.toNat*v.cells.size)).map (v.cells[·%v.cells.size]!):=(by unfold madeCells;rw[hl,hzl]);rw[hms]at hr;have hs:=aDh hv m.toNat
   have hsl:=hs.length;refine aBt hH hB (cs:=aR z m.toNat) (cur:=(Array.range (m.toNat*v.cells.size)).map (v.cells[·%v.cells.size]!)) (v:= .slice (some ⟨w.heap.size,0,none⟩) m.toNat m.toNat) (x:= .sref n [] 0 m.toNat inf.size) ?_ ?_ hs.take_length ?_ h4;{simp only[execOp,ho,hxy,h0.1,Sem.run_bind,hr,Result.andThen_ok,Sem.run_pure];rfl};{simpa using Nat.le_of_eq hsl.symm};{simp only[RV];exact⟨y8 _,_,_,rfl,k9 _,by unfold maxLen;omega,.inr ⟨by simp,by simp,by simp[hl,hzl]⟩⟩}
 {exact h.elim}
theorem bOe {o:Oper} {t e:TypeId} {x:Operand} {x':Opd} (ho:o.op= .call {callee:= .builtin .len,args:=#[x],argTypes:=#[t]}) (ht:P.underlying t=some (.slice e)) (hx:aI x=some x')
 (he:Env Φ n β env a) (hH:RH Φ n β H w) (hB:Keep Φ w) (h:xop P env H n K (.len x')):QDone P o a Φ n β H K w:=by
 have h0:=aK he hx;have key:∀s m cap,a.eval x= .slice s m cap->m<=maxLen->K (.int .i64 m) H n->QDone P o a Φ n β H K w:=λs m cap e hm hK=>by refine aO (v:= .int .i64 m) (λw' _=>?_) ?_ hK;{simp[execOp,ho,resolve,invoke,builtin,e,Builtin.len_,run_underlying ht,goInt]};{unfold maxLen at hm;simp only[RV,IntKind.min,IntKind.max,IntKind.signed,IntKind.bits];refine⟨trivial,by simp<;>omega,by simp<;>omega⟩}
 simp only[xop]at h;split at h;{rename_i r π p m sz e1;rw[e1]at h0;simp only[RV]at h0;obtain⟨_,s,cap,g1,g2,g3,_⟩:=h0;exact key s m cap g1 (by omega) h};{rename_i m cs e1;rw[e1]at h0;simp only[RV]at h0;obtain⟨s,cap,vs,g1,g2,g3,_⟩:=h0;exact key s m cap g1 (by omega) h};{rename_i e1;rw[e1]at h0;simp only[RV]at h0;exact key none 0 0 h0 (by simp[maxLen]) h};{rename_i e1;rw[e1]at h0;simp only[RV]at h0;obtain⟨s,h0⟩:=h0;exact key s 0 0 h0 (by simp[maxLen]) h};{exact h.elim}
theorem bNl {o:Oper} {x:Operand} {x':Opd} {i:Nat} (ho:o.op= .extract x i) (hx:aI x=some x')
 (he:Env Φ n β env a) (hH:RH Φ n β H w) (hB:Keep Φ w) (h:xop P env H n K (.ext x' i)):QDone P o a Φ n β H K w:=by
 have h0:=aK he hx;simp only[xop]at h;split at h
 · rename_i vs e1
   rw[e1]at h0;simp only[RV]at h0;obtain⟨arr,g1,g2⟩:=h0;have hl:=g2.length;simp only[Array.length_toList]at hl
   have key:∀(vs:List AV) (us:List Value),RVt Φ n β vs us->∀i,i<vs.length->RV Φ n β (vs.getD i .unk) (us.getD i undef):=by
    intro vs;induction vs with
    |nil=>intro us _ i hi;simp at hi
    |cons x vs ih=>intro us h i hi;simp only[RVt]at h;obtain⟨v,us,rfl,h1,h2⟩:=h;(cases i with|zero=>exact h1|succ i=>simpa using ih us h2 i (by simpa using hi))
   have hk:=key vs arr.toList g2 i h.1;have hi:i<arr.size:=(by rw[hl];exact h.1);have e:arr.toList.getD i undef=arr[i]:=(by simp[x8,hi]);rw[e]at hk;exact aO (v:=arr[i]) (λw' _=>by simp[execOp,ho,g1,Instr.extract,hi]) hk h.2
 {exact h.elim}
theorem bPq {o:Oper} {t:TypeId} {x:Operand} {x':Opd} {i:Nat} {fs:Array Field} {f:Field} {inf:TypeInfo} {ag:Bool} (ho:o.op= .field t x i) (ht:P.underlying t=some (.struct fs)) (hf:fs[i]? =some f)
 (hag:aWd P f.type=some ag) (hi:P.info? f.type=some inf) (hx:aI x=some x')
 (he:Env Φ n β env a) (hH:RH Φ n β H w) (hB:Keep Φ w) (h:xop P env H n K (.fld ag f.offset inf.size x')):QDone P o a Φ n β H K w:=by
 have h0:=aK he hx;simp only[xop]at h;obtain⟨u,hu,hue⟩:=w9.1 hag;split at h
 · rename_i cs e1
   rw[e1]at h0;simp only[RV]at h0;obtain⟨arr,g1,g2⟩:=h0;obtain⟨h1,h2,h3⟩:=h;have hl:=g2.length;simp only[Array.length_toList]at hl;have hia:∀w',(isAgg f.type).run P w'= .ok ag w':=λw'=>by unfold isAgg;simp only[Sem.run_bind,run_underlying hu,Result.andThen_ok];cases u<;>simp_all
   (cases ag with|false=>have hm:=h2 rfl;have hlt:f.offset<arr.size:=(by omega);have hk:=(g2.get f.offset (by omega)).1;have e:arr.toList.getD f.offset undef=arr[f.offset]:=(by simp[x8,hlt]);rw[e]at hk;refine aO (v:=arr[f.offset]) (λw' _=>?_) hk h3;simp[execOp,ho,g1,Instr.field,run_underlying ht,hf,asAgg,part,hia,hlt]|true=>refine aO (v:= .agg (arr.extract f.offset (f.offset+inf.size))) (λw' _=>?_) ?_ h3;{simp[execOp,ho,g1,Instr.field,run_underlying ht,hf,asAgg,part,hia,sizeOf,typeInfo,hi]};{simp only[bY,RV];refine⟨_,rfl,?_⟩;have:=(g2.drop f.offset).take inf.size;simpa[Array.toList_extract,List.extract_eq_take_drop,List.take_drop,Nat.add_comm]using this})
 {exact h.elim}
end
section
variable {P : Program} {Φ : Fz} {n : Nat} {β : Spots} {env : List AV} {H : Heap} {a : Act} {w : World} {K : AV → Heap → Nat → Prop}
def aDy{α γ:Type}(R:α->γ->Prop):List α->List γ->Prop
 |[],qs=>qs=[]
 |p::ps,qs=>∃q qs',qs=q::qs'/\R p q/\aDy R ps qs'
theorem aUg:∀(fs:List Field),fs.all (λf=>(P.info? f.type).isSome)=true->
 (fs.mapM λf=>do pure (f.offset,<-sizeOf f.type):Sem (List (Nat×Nat))).run P w= .ok (fs.map λf=>(f.offset,P.cellsOf f.type)) w
 |[],_=>by simp
 |f::fs,h=>by simp only[y4,x5]at h;obtain⟨inf,hi⟩:=y3.1 h.1;have ih:=aUg fs h.2;simp only[List.mapM_cons,Sem.run_bind,sizeOf,typeInfo,run_program,Result.andThen_ok,hi,Sem.run_pure]at ih ⊢;rw[ih];simp[Program.cellsOf,hi]
theorem bFy(fs:Array Field)(h:fs.toList.all (λf=>(P.info? f.type).isSome)=true):
 (fs.mapM λf=>do pure (f.offset,<-sizeOf f.type):Sem (Array (Nat×Nat))).run P w= .ok (fs.map λf=>(f.offset,P.cellsOf f.type)) w:=by
 obtain⟨l⟩:=fs;rw[List.mapM_toArray,Sem.run_map,aUg l h];simp
theorem aXy{xs:List AV}:∀(vs:List Value) (ys:List AV) (j off:Nat) (cs:List AV) (cur:Array Value),RVs Φ n β ys vs->RVs Φ n β cs cur.toList->
 RVs Φ n β (aT cs (off+j) ys) ((vs.zipIdx j).foldl (λc (x:Value×Nat)=>c.setIfInBounds (off+x.2) x.1) cur).toList
 |[],ys,j,off,cs,cur,h,hc=>by(cases ys with|nil=>simpa[aT]using hc|cons y ys=>simp[RVs]at h)
 |v::vs,ys,j,off,cs,cur,h,hc=>by(cases ys with|nil=>simp[RVs]at h|cons y ys=>simp only[RVs]at h;obtain⟨v',vs',e,h1,h2,h3⟩:=h;cases e;simp only[List.zipIdx_cons,List.foldl_cons,aT];have:=aXy (xs:=xs) vs ys (j+1) off (cs.set (off+j) y) (cur.setIfInBounds (off+j) v) h3 (by simpa using hc.set (off+j) h2 h1);simpa[m4]using this)
theorem aBe(place:Nat->Option (Nat×Nat))(he:Env Φ n β env a):∀(ps:List (Nat×Operand)) (qs:List (Nat×Nat×Opd)) (cs out:List AV) (cur:Array Value),
 aDy (λ(p:Nat×Operand) (q:Nat×Nat×Opd)=>place p.1=some (q.1,q.2.1)/\aI p.2=some q.2.2) ps qs->RVs Φ n β cs cur.toList->eC env cs qs=some out->
 ∃cur',Instr.fill place cur (ps.map λp=>(p.1,a.eval p.2))=some cur'/\RVs Φ n β out cur'.toList/\cur'.size=cur.size
 |[],qs,cs,out,cur,h,hc,hf=>by simp only[aDy]at h;subst h;simp only[eC,w7.injEq]at hf;subst hf;exact⟨cur,rfl,hc,rfl⟩
 |(i,x)::ps,qs,cs,out,cur,h,hc,hf=>by
  simp only[aDy]at h;obtain⟨q,qs,rfl,h1,h2⟩:=h;obtain⟨off,sz,y⟩:=q;obtain⟨e1,e2⟩:=h1;simp only[eC]at hf;split at hf
  · rename_i ys hy
    split at hf
    · rename_i hb
      have hv:=aFi hy (aK he e2);have hl:=hv.length;have hlc:=hc.length;simp only[Array.length_toList]at hl hlc;have hs:=aXy (xs:=[]) (a.eval x).cells.toList ys 0 off cs cur hv hc;simp only[qZU]at hs;obtain⟨cur',r1,r2,r3⟩:=aBe place he ps qs _ out _ h2 hs hf;refine⟨cur',?_,r2,?_⟩;{simp only[m5,Instr.fill];simp only at e1;rw[e1];simp only;rw[if_neg (by simp;omega)];have:((a.eval x).cells.zipIdx.foldl (λcs (x:Value×Nat)=>cs.setIfInBounds (off+x.2) x.1) cur)=((a.eval x).cells.toList.zipIdx 0).foldl (λc (x:Value×Nat)=>c.setIfInBounds (off+x.2) x.1) cur:=(by rw[<-Array.foldl_toList];simp);rw[<-r1,<-this]}
      · rw[r3]
        have:∀(l:List (Value×Nat)) (c:Array Value),(l.foldl (λc (x:Value×Nat)=>c.setIfInBounds (off+x.2) x.1) c).size=c.size:=by
         intro l;induction l with
         |nil=>intro c;rfl
         |cons x l ih=>intro c;simp[ih]
        exact this _ _
    {cases hf}
  {cases hf}
theorem aFv(fs:Array Field):∀(ps:List (Nat×Operand)) (qs:List (Nat×Nat×Opd)),xN P fs ps=some qs->
 aDy (λ(p:Nat×Operand) (q:Nat×Nat×Opd)=>(fs.map λf=>(f.offset,P.cellsOf f.type))[p.1]? =some (q.1,q.2.1)/\aI p.2=some q.2.2) ps qs
 |[],qs,h=>by simp only[xN,w7.injEq]at h;subst h;simp[aDy]
 |(i,x)::ps,qs,h=>by simp only[xN]at h;split at h;{rename_i f y ys h1 h2 h3;obtain⟨inf,hi,rfl⟩:=w9.1 h;exact⟨_,_,rfl,⟨by simp[h1,Program.cellsOf,hi],h2⟩,aFv fs ps ys h3⟩};{cases h}
theorem bPn {o:Oper} {t:TypeId} {ps:Array (Nat×Operand)} {qs:List (Nat×Nat×Opd)} {fs:Array Field} {z:List AV} (ho:o.op= .build t ps) (ht:P.underlying t=some (.struct fs)) (hz:Go.Proofs.YtcgggihjcelmhaaGreat.zeroCells P t=some z)
 (hall:fs.toList.all (λf=>(P.info? f.type).isSome)=true) (hp:xN P fs ps.toList=some qs)
 (he:Env Φ n β env a) (hH:RH Φ n β H w) (hB:Keep Φ w) (h:xop P env H n K (.bld z qs)):QDone P o a Φ n β H K w:=by
 obtain⟨inf,v,g1,g2,g3⟩:=gW hz;have hv:=fP (Φ:=Φ) (n:=n) (β:=β) g3;simp only[xop]at h;split at h
 · rename_i cs hcs
   obtain⟨cur,r1,r2,_⟩:=aBe (λi=>(fs.map λf=>(f.offset,P.cellsOf f.type))[i]?) he ps.toList qs z cs v.cells (aFv fs _ _ hp) hv hcs;refine aO (v:= .agg cur) (λw' _=>?_) (by simp only[RV];exact⟨_,rfl,r2⟩) h;have hm:(ps.map λ(x:Nat×Operand)=>(x.1,a.eval x.2)).toList=ps.toList.map λp=>(p.1,a.eval p.2):=by simp
   simp only[execOp,ho,Instr.build,Sem.run_bind,zeroValue,typeInfo,run_program,Result.andThen_ok,g1,g2,Sem.run_pure,run_underlying ht,bFy fs hall,hm,r1]
 {exact h.elim}
theorem xZ(sz:Nat):∀(ps:List (Nat×Operand)) (qs:List (Nat×Nat×Opd)),vF sz ps=some qs->
 aDy (λ(p:Nat×Operand) (q:Nat×Nat×Opd)=>some (p.1*sz,sz)=some (q.1,q.2.1)/\aI p.2=some q.2.2) ps qs
 |[],qs,h=>by simp only[vF,w7.injEq]at h;subst h;simp[aDy]
 |(i,x)::ps,qs,h=>by simp only[vF]at h;split at h;{rename_i y ys h2 h3;simp only[w7.injEq]at h;subst h;exact⟨_,_,rfl,⟨rfl,h2⟩,xZ sz ps ys h3⟩};{cases h}
theorem cDd {o:Oper} {t e:TypeId} {m:Nat} {ps:Array (Nat×Operand)} {qs:List (Nat×Nat×Opd)} {z:List AV} {inf:TypeInfo} (ho:o.op= .buildSlice t m ps) (ht:P.underlying t=some (.slice e)) (hi:P.info? e=some inf)
 (hz:Go.Proofs.YtcgggihjcelmhaaGreat.zeroCells P e=some z) (hsz:m*inf.size<=2^24) (hzl:z.length=inf.size) (hpos:0<inf.size) (hp:vF inf.size ps.toList=some qs)
 (he:Env Φ n β env a) (hH:RH Φ n β H w) (hB:Keep Φ w) (h:xop P env H n K (.bsl e inf.size m z qs)):xT P o a Φ n β K w:=by
 obtain⟨inf',v,g1,g2,g3⟩:=gW hz;rw[hi]at g1;cases g1;have hv:=fP (Φ:=Φ) (n:=n) (β:=β) g3;have hl:=hv.length;simp only[Array.length_toList]at hl;simp only[xop]at h;split at h
 · rename_i cs hcs
   have hrep:=aDh hv m;obtain⟨cur,r1,r2,r3⟩:=aBe (λi=>some (i*inf.size,inf.size)) he ps.toList qs (aR z m) cs _ (xZ inf.size _ _ hp) hrep hcs;have hl2:=r2.length;simp only[Array.length_toList]at hl2;have hm:(ps.map λ(x:Nat×Operand)=>(x.1,a.eval x.2)).toList=ps.toList.map λp=>(p.1,a.eval p.2):=by simp
   have hcur:cur.size=m*inf.size:=(by rw[r3];simp[hl,hzl]);refine aBt hH hB (cur:=cur) (cs:=cs) (v:= .slice (some ⟨w.heap.size,0,none⟩) m m) (x:= .sref n [] 0 m inf.size) ?_ (by omega) r2.take_length ?_ h
   · have hne:¬(m*inf.size>2^24):=by omega
     have hsz2:(Array.range (m*v.cells.size)).map (v.cells[·%v.cells.size]!)=(Array.range (m*inf.size)).map (v.cells[·%v.cells.size]!):=(by rw[hl,hzl]);rw[hsz2]at r1;by_cases hm0:m*inf.size=0
     · have:m=0:=by
        rcases Nat.mul_eq_zero.1 hm0 with h|h<;>omega
       subst this;simp only[Nat.zero_mul,Array.range_zero',Array.map_empty]at r1;simp[execOp,ho,Instr.buildSlice,run_underlying ht,sizeOf,typeInfo,hi,r1,newRow,Array.range_zero']
     {simp only[execOp,ho,Instr.buildSlice,Sem.run_bind,run_underlying ht,Result.andThen_ok,sizeOf,typeInfo,run_program,hi,Sem.run_pure,if_neg hne,if_neg hm0,zeroValue,g2,hm,r1,newRow,run_newObj,Sem.run_ite]}
   {simp only[RV];have:m<=2^24:=qQQ (Nat.le_mul_of_pos_right m hpos) hsz;exact⟨y8 _,_,_,rfl,k9 _,by unfold maxLen;omega,.inr ⟨by simp,by simp,by simp[hcur]⟩⟩}
 {exact h.elim}
end
section
variable {P : Program} {Φ : Fz} {n : Nat} {β : Spots} {env : List AV} {H : Heap} {a : Act} {w : World} {K : AV → Heap → Nat → Prop}
def bLd(w:World)(s:Option Addr)(vs:List Value):Prop:=vs=[]\/∃b p,s=some ⟨b,p,none⟩/\∀i,i<vs.length->w.cell? ⟨b,p+i,none⟩=some (vs.getD i undef)
theorem RowOf.inw{s:Option Addr}{vs:List Value}(h:RowOf Φ s vs)(hB:Keep Φ w):bLd w s vs:=h.imp id λ⟨b,p,cs,e,fz,h1,h2,h3⟩=>⟨b,p,h1,λi hi=>by have:=hB _ _ h2;simp only[World.cell?,this,Option.isSome_none,o8,if_false];exact h3 i hi⟩
theorem bYo{r:Nat}{π:List Nat}{t:Root}(hH:RH Φ n β H w)(hr:H.get r π=some t)(hx:(β r π).ex=true){o m:Nat}(hl:o+m<=t.cs.length):
 ∃vs,bLd w (some ⟨(β r π).b,(β r π).st+o,none⟩) vs/\RVs Φ n β (((refer r π 0 t.cs).drop o).take m) vs:=by
 obtain⟨h2,cur,h3,h4,h5,h6⟩:=hH.own hr hx;refine⟨(((cur.toList.drop (β r π).st).take t.cs.length).drop o).take m,.inr ⟨_,_,rfl,λi hi=>?_⟩,(h6.drop o).take m⟩;simp only[m7,p8,Array.length_toList]at hi;have e:((((cur.toList.drop (β r π).st).take t.cs.length).drop o).take m).getD i undef=cur[(β r π).st+o+i]'(by omega):=(by simp[x8,qQJ,t9,show i<m by omega,show o+i<t.cs.length by omega,<-m4,show(β r π).st+o+i<cur.size by omega]);rw[e];simp[World.cell?,h3,show(β r π).st+o+i<cur.size by omega]
def RowAt(w:World)(e:TypeId)(size:Nat)(v:Value)(n:Nat)(xs:List Value):Prop:=xs.length=n*size/\((v= .slice none 0 0/\n=0)\/∃g st cap cur,v= .slice (some ⟨g,st,none⟩) n cap/\w.heap[g]? =some (.cells cur e (0,0))/\n<=cap/\cap<=maxLen/\cur.size=st+cap*size/\(cur.toList.drop st).take (n*size)=xs)
theorem RowAt.nil(w:World)(e:TypeId)(size:Nat):RowAt w e size (.slice none 0 0) 0 []:=⟨by simp,.inl ⟨rfl,rfl⟩⟩
theorem bCf{w:World}{base:Nat}{e:TypeId}{size:Nat}{v:Value}{n:Nat}{xs:List Value}(h:w.ownsRow base e size v n xs):RowAt w e size v n xs:=⟨h.1,h.2.imp id λ⟨g,cap,cur,h1,_,h2,h3,h4,h5,h6⟩=>⟨g,0,cap,cur,h1,h2,h3,h4,by rw[h5,p9],by rw[List.drop_zero];exact h6⟩⟩
theorem bRx{w w':World}(h:w.grownBy w' none)(row:Option Nat):w.grownBy w' row:=⟨h.os,h.tape,h.output,h.size,λk hk _=>h.block k hk (by simp)⟩
theorem aJp (t ty e:TypeId) (i:TypeInfo) (ht:P.underlying t=some (.slice e)) (hi:P.info? e=some i)
 (g st sLen sCap:Nat) (cur:Array Value) (hg:w.heap[g]? =some (.cells cur e (0,0)))
 (a:Addr) (m c:Nat) (news:List Value) (hl:news.length=m*i.size) (hnews:∀j u,news[j]? =some u->w.cell? (a.add j)=some u) (h1:∀u∈news,u.oneCell'=true)
 (hroom:sLen+m<=sCap) (hfit:st+sLen*i.size+news.length<=cur.size):
 (Builtin.append_ #[t,t] ty #[.slice (some ⟨g,st,none⟩) sLen sCap,.slice (some a) m c]).run P w= .ok (.slice (some ⟨g,st,none⟩) (sLen+m) sCap) (w.setRow g (cur.toList.take (st+sLen*i.size)++news++cur.toList.drop (st+sLen*i.size+news.length)).toArray):=by
 have hf:=run_firstCells_some (P:=P) w i.size m a m c news hl hnews;have hst:=run_storeCells_at P g (st+sLen*i.size) e news 0 cur w hg (by simpa using hfit) h1;simp only[qZU]at hst;simp[Builtin.append_,run_underlying ht,sizeOf,typeInfo,hi,Builtin.lenOf,hroom,hf,Addr.add_lit,hst]
theorem aPs (t ty e:TypeId) (i:TypeInfo) (z:Value) (size bytes:Nat) (ht:P.underlying t=some (.slice e)) (hi:P.info? e=some i) (hz:i.zero=some z)
 (hsize:i.size=size) (hby:i.bytes=bytes) (hzs:z.cells.size=size) (hsz:0<size) (v:Value) (n:Nat) (xs:List Value) (hown:RowAt w e size v n xs)
 (a:Addr) (m c:Nat) (news:List Value) (hl:news.length=m*size) (hnews:∀j u,news[j]? =some u->w.cell? (a.add j)=some u) (h1:∀u∈news,u.oneCell'=true)
 (h63:n+m<=maxLen) (hbytes:(n+m)*bytes<=140737488355328):
 ∃v' w',(Builtin.append_ #[t,t] ty #[v,.slice (some a) m c]).run P w= .ok v' w'/\RowAt w' e size v' (n+m) (xs++news)/\w.grownBy w' v.ownBlock/\(v'.ownBlock=v.ownBlock\/∃k,v'.ownBlock=some k/\w.heap.size<=k):=by
 rcases hown.2 with⟨rfl,rfl⟩|⟨g,st,cap,cur,rfl,hg,hnc,hcm,hcs,htake⟩;{have hx:xs=[]:=List.eq_nil_of_length_eq_zero (by simpa using hown.1);subst hx;obtain⟨v',w',r1,r2,r3,_,r5⟩:=run_append_own_at (P:=P) w 0 t ty e i z size bytes ht hi hz hsize hby hzs hsz (.slice none 0 0) 0 [] (World.ownsRow_nil w 0 e size) a m c news hl hnews h1 h63 hbytes (m9 _);exact⟨v',w',r1,bCf r2,r3,r5.imp id λh=>⟨_,h,k9 _⟩⟩}
 · by_cases hroom:n+m<=cap
   {subst hsize;have hle:(n+m)*i.size<=cap*i.size:=qQZ _ hroom;have hlen:(xs++news).length=(n+m)*i.size:=(by rw[y5,hown.1,hl,qZQ]);have hx:=hown.1;have hr:=aJp (P:=P) (w:=w) t ty e i ht hi g st n cap cur hg a m c news hl hnews h1 hroom (by rw[qZQ]at hle;omega);refine⟨_,_,hr,⟨hlen,.inr ⟨g,st,cap,_,rfl,setRow_heap w g cur _ e _ hg,hroom,hcm,?_,?_⟩⟩,⟨rfl,rfl,rfl,by simp,λk _ hk=>setRow_other w g k _ (λe=>hk (by simp[Value.ownBlock,e]))⟩,Or.inl rfl⟩;{rw[qZQ]at hle;simp only[List.size_toArray,y5,m7,p8,Array.length_toList];omega};{rw[qZQ]at hle;have e1:cur.toList.take (st+n*i.size)=cur.toList.take st++xs:=(by rw[<-htake,<-List.take_append_drop st (cur.toList.take (st+n*i.size)),List.take_take,Nat.min_eq_left (by omega),List.drop_take,show st+n*i.size-st=n*i.size by omega]);have e2:(cur.toList.take st).length=st:=(by rw[m7,Array.length_toList];omega);show((_++_++_:List Value).drop st).take _=_;rw[e1,qQY,qQY,List.drop_append_of_le_length (by omega),List.drop_eq_nil_of_le (by omega),r6,<-qQY,<-hlen,List.take_left]}}
   · obtain⟨v',w',r1,r2,r3⟩:=run_append_arg_grows (P:=P) w t ty e i z size bytes ht hi hz hsize hby hzs hsz ⟨g,st,none⟩ n cap xs hown.1 (λj u hj=>by
      have hj2:j<xs.length:=(n9.1 hj).1;have hlen:=hown.1;have hle:n*size<=cap*size:=qQZ _ hnc;rw[gO];rw[<-htake,qQJ,if_pos (by omega),t9]at hj;simpa[World.cell?,hg]using hj) a m c news hl hnews (by omega) h63 hbytes
     refine⟨v',w',r1,bCf r2,bRx r3 _,?_⟩;rcases r2.2 with⟨rfl,hz0⟩|⟨g',cap',cur',rfl,hb,hg',_⟩;{exfalso;omega};{exact .inr ⟨g',rfl,hb⟩}
theorem aGa{sz:Nat}{x:AV}{v:Value}{m:Nat}{ds:List AV}(hH:RH Φ n β H w)(hB:Keep Φ w)(h:cY H sz x=some (m,ds))(hx:RV Φ n β x v):
 ∃s c vs,v= .slice s m c/\m<=c/\bLd w s vs/\RVs Φ n β ds vs/\ds.length=m*sz:=by
 cases x<;>simp only[cY,reduceCtorEq]at h
 case nil=>simp only[w7.injEq,Prod.mk.injEq]at h;obtain⟨rfl,rfl⟩:=h;simp only[RV]at hx;exact⟨none,0,[],hx,k9 _,.inl rfl,by simp[RVs],by simp⟩
 case emp=>simp only[w7.injEq,Prod.mk.injEq]at h;obtain⟨rfl,rfl⟩:=h;simp only[RV]at hx;obtain⟨s,hx⟩:=hx;exact⟨s,0,[],hx,k9 _,.inl rfl,by simp[RVs],by simp⟩
 case sref r π o k sz'=>split at h;{rename_i t hr;split at h;{rename_i hc;simp only[w7.injEq,Prod.mk.injEq]at h;obtain⟨rfl,rfl⟩:=h;obtain⟨rfl,hl⟩:=hc;simp only[RV]at hx;obtain⟨_,s,cap,h1,h2,h3,h4⟩:=hx;have hlen:(((refer r π 0 t.cs).drop o).take (k*sz')).length=k*sz':=(by simp[aY];omega);rcases h4 with⟨rfl,rfl,_⟩|⟨h4,rfl,h5⟩;{refine⟨s,0,[],h1,k9 _,.inl rfl,by simp[RVs],by simp⟩};{obtain⟨vs,g1,g2⟩:=bYo hH hr h4 hl;exact⟨_,cap,vs,h1,h2,g1,g2,hlen⟩}};{cases h}};{cases h}
 case bor k cs=>split at h;{rename_i hc;simp only[w7.injEq,Prod.mk.injEq]at h;obtain⟨rfl,rfl⟩:=h;simp only[RV]at hx;obtain⟨s,cap,vs,h1,h2,h3,h4,h5⟩:=hx;exact⟨s,cap,vs,h1,h2,h4.inw hB,h5,hc⟩};{cases h}
theorem aTh{t ty e:TypeId}{i:TypeInfo}(ht:P.underlying t=some (.slice e))(hi:P.info? e=some i)(s:Option Addr)(l c:Nat)(hc:l<=c)(s2:Option Addr)(c2:Nat):
 (Builtin.append_ #[t,t] ty #[.slice s l c,.slice s2 0 c2]).run P w= .ok (.slice s l c) w:=by
 cases s<;>cases s2<;>simp[Builtin.append_,run_underlying ht,sizeOf,typeInfo,hi,Builtin.lenOf,Builtin.firstCells,loadCells,loadCellsFrom,hc,storeCells]
theorem aEu {o:Oper} {t:TypeId} {x y:Operand} (ho:o.op= .call {callee:= .builtin .append,args:=#[x,y],argTypes:=#[t,t]}) {v':Value} {w':World}
 (h:(Builtin.append_ #[t,t] o.type #[a.eval x,a.eval y]).run P w= .ok v' w'):(execOp a.eval o).run P w= .ok (.value v') w':=by
 simp[execOp,ho,resolve,invoke,builtin,h]
theorem bSw{r:Nat}{π:List Nat}{r':Nat}{π':List Nat}{t':Root}(hs:(H.get r π).isSome=true)(h:(H.kill r π).get r' π'=some t'):(H.get r' π').isSome=true/\¬(r'=r/\Under π π'):=by
 (cases π with|nil=>simp only[Heap.kill]at h;by_cases e:r=r';{subst e;have hd:Heap.get ((r,none)::H) r []=none:=(by simp[Heap.get,Heap.get1]);have:=eO hd π';rw[r8,h]at this;cases this};{rw[bH e]at h;exact⟨by simp[h],λh2=>e h2.1.symm⟩}|cons i π=>simp only[Heap.get]at hs;split at hs;{rename_i t ht;simp only[Heap.kill,ht]at h;have hn:(AV.unk).node=none:=rfl;refine⟨?_,λ⟨h1,σ,h2⟩=>?_⟩;{have:((H.put r π (t.cs.set i .unk)).get r' π').isSome=true:=(by rw[h];rfl);exact aDm ht (aDc hn) this};{subst h1;subst h2;have hd:(H.put r' π (t.cs.set i .unk)).get r' (i::π)=none:=(by simp only[Heap.get,vP ht];rw[fV];split;{rfl};{rename_i hlt;cases hc:t.cs.getD i .unk<;>rw[hc]at hs<;>simp only[AV.node,Option.isSome_none,o8]at hs;exact absurd ⟨rfl,aGc hc⟩ hlt});rw[eO hd σ]at h;cases h}};{simp at hs})
theorem RH.kill(h:RH Φ n β H w){r:Nat}{π:List Nat}:RH Φ n β (H.kill r π) w:=by
 cases π with
 |nil=>
  simp only[Heap.kill];have hg:∀r' π' t',Heap.get ((r,none)::H) r' π'=some t'->H.get r' π'=some t':=(by intro r' π' t' h';by_cases e:r=r';{subst e;have hd:Heap.get ((r,none)::H) r []=none:=(by simp[Heap.get,Heap.get1]);have:=eO hd π';rw[r8,h']at this;cases this};{rw[bH e]at h';exact h'});have hs:∀r' π',(Heap.get ((r,none)::H) r' π').isSome=true->(H.get r' π').isSome=true:=λr' π' h'=>by obtain⟨t',ht'⟩:=y3.1 h';simp[hg _ _ _ ht']
  exact⟨λr' π' t' h'=>h.root r' π' t' (hg _ _ _ h'),λr1 π1 r2 π2 h1 h2=>h.apart r1 π1 r2 π2 (hs _ _ h1) (hs _ _ h2)⟩
 |cons i π=>simp only[Heap.kill];split;{rename_i t ht;have hn:(AV.unk).node=none:=rfl;refine⟨λr' π' t' h'=>?_,λr1 π1 r2 π2 h1 h2=>h.apart r1 π1 r2 π2 (aDm ht (aDc hn) h1) (aDm ht (aDc hn) h2)⟩;rcases aRa ht (aDc hn) r' π' t' h' with⟨rfl,rfl,rfl⟩|⟨hne,t0,h0,e1,e2,e3⟩;{obtain⟨g1,g2⟩:=h.root _ _ t ht;refine⟨g1,g2.imp (λ⟨k1,k2⟩=>⟨k1,by simp[k2]⟩) λ⟨k1,k2,cur,k3,k4,k5,k6⟩=>⟨k1,k2,cur,k3,k4,by simpa using k5,?_⟩⟩;simp only[t7];rw[aYa hn];have hl:=k6.length;refine RVs.of_get (by simpa using hl) λj hj=>?_;rw[t7]at hj;have:=k6.get j hj;rw[fV];split;{exact⟨by simp[RV],this.2⟩};{exact this}};{obtain⟨g1,g2⟩:=h.root r' π' t0 h0;refine⟨g1,?_⟩;unfold NodeIs at g2 ⊢;rw[e1,e2,e3];exact g2.imp (λ⟨k1,k2⟩=>⟨k1,m6.1 (by rw[e2,k2];rfl)⟩) id}};{exact h}
theorem aJd{Φ':Fz}{n':Nat}{β':Spots}{r r':Nat}{π π':List Nat}(hΦ:Φ.le Φ')(hn:n<=n')(hr:r'<n')(hb:∀i,i<n->∀σ,i≠r'->β' i σ=β i σ)(hrn:n<=r')(hm:∀k,β' r' (k::π')=β r (k::π)):∀{k:Nat} {cs:List AV} {vs:List Value},
 RVs Φ n β (refer r π k cs) vs->RVs Φ' n' β' (refer r' π' k cs) vs
 |_,[],_,h=>by simpa only[refer,RVs]using h
 |k,c::cs,vs,h=>by simp only[refer,RVs]at h ⊢;obtain⟨v,vs',e,o,h1,h2⟩:=h;refine⟨v,vs',e,o,?_,aJd hΦ hn hr hb hrn hm h2⟩;(cases hc:c.node with|none=>rw[yD hc]at h1 ⊢;exact h1.more hΦ hn λi hi=>funext λσ=>hb i hi σ (by omega)|some t=>cases c<;>simp only[AV.node,reduceCtorEq]at hc;simp only[AV.at,RV]at h1 ⊢;rw[hm k];exact⟨hr,h1.2⟩)
def mF(H:Heap):Option (Nat×List Nat)->Heap
 |none=>H
 |some (r,π)=>H.kill r π
theorem RH.grown {w':World} (hH:RH Φ n β H w) {e:TypeId} {cs ds:List AV} {g:Nat} {ex:Bool} {tot st:Nat} {cur:Array Value} {row:Option Nat} {dead:Option (Nat×List Nat)} (hg0:ex=true->Φ g=none)
 (hdead:(dead=none/\cs=[])\/∃r π t,dead=some (r,π)/\H.get r π=some t/\t.cs=cs)
 (hc:ex=true->w'.heap[g]? =some (.cells cur e (0,0))) (htot:ex=true->cur.size=st+tot) (hex:ex=false->cs++ds=[]) (hl:(cs++ds).length<=tot) (hno:noOwn ds=true)
 (hv:∃vs us,RVs Φ n β (refer (dead.getD (0,[])).1 (dead.getD (0,[])).2 0 cs) vs/\RVs Φ n β ds us/\(ex=true->(cur.toList.drop st).take (cs++ds).length=vs++us))
 (hgr:w.grownBy w' row) (hother:∀r π t,H.get r π=some t->(β r π).ex=true->some (r,π)≠dead->some (β r π).b≠row/\(ex=true->(β r π).b≠g)):
 RH Φ (n+1) (λi=>if i=n then λσ=>if σ=[]then⟨ex,g,tot,st⟩else β (dead.getD (0,[])).1 (σ++(dead.getD (0,[])).2)else β i) ((n,some ⟨e,cs++ds⟩)::mF H dead) w':=by
 generalize hq:dead.getD (0,[])=q at hv ⊢;obtain⟨qr,qπ⟩:=q;simp only at hv;generalize hβ:(λi=>if i=n then λσ=>if σ=[]then(⟨ex,g,tot,st⟩:Spot)else β qr (σ++qπ)else β i)=β';have hβn:∀σ,β' n σ=if σ=[]then(⟨ex,g,tot,st⟩:Spot)else β qr (σ++qπ):=λσ=>by rw[<-hβ];simp
 have hn0:β' n []=⟨ex,g,tot,st⟩:=(by rw[hβn];simp);have hn1:∀σ j,β' n (σ++[j])=β qr (σ++j::qπ):=λσ j=>by rw[hβn];simp
 have hβo:∀i,i≠n->β' i=β i:=λi hi=>by rw[<-hβ];simp[hi]
 have hb:∀i,i<n->β' i=β i:=λi hi=>hβo i (by omega);have hbs:∀i,i<n->∀σ,i≠n->β' i σ=β i σ:=λi _ σ hn=>by rw[hβo i hn]
 have hold:∀r π t,(mF H dead).get r π=some t->(∃t0,H.get r π=some t0)/\(∀r1 π1,dead=some (r1,π1)->¬(r=r1/\Under π1 π)):=by intro r π t h;(cases dead with|none=>exact⟨⟨t,h⟩,λ_ _ h=>by cases h⟩|some d=>obtain⟨dr,dπ⟩:=d;rcases hdead with⟨h1,_⟩|⟨r2,π2,t2,h1,h2,_⟩;{cases h1};{cases h1;obtain⟨g1,g2⟩:=bSw (by simp[h2]) h;exact⟨y3.1 g1,λr1 π1 e=>by cases e;exact g2⟩})
 have hH1:RH Φ n β (mF H dead) w:=by cases dead with
  |none=>exact hH
  |some d=>exact hH.kill
 have hin:∀σ j t,Heap.get ((n,some ⟨e,cs++ds⟩)::mF H dead) n (σ++[j])=some t->dead=some (qr,qπ)/\H.get qr (σ++j::qπ)=some t:=by
  intro σ j t h;have h0:Heap.get ((n,some ⟨e,cs++ds⟩)::mF H dead) n []=some ⟨e,cs++ds⟩:=(by simp[Heap.get,Heap.get1]);by_cases hj:j<cs.length;{rcases hdead with⟨_,h2⟩|⟨r,π,t2,h1,h2,h3⟩;{subst h2;simp at hj};{subst h1;simp only[Option.getD_some,Prod.mk.injEq]at hq;obtain⟨rfl,rfl⟩:=hq;refine⟨rfl,?_⟩;rw[<-h];refine(aDp h0 h2 ?_ σ).symm;rw[h3];simp[x8,e7 hj]}}
  · have hd:Heap.get ((n,some ⟨e,cs++ds⟩)::mF H dead) n [j]=none:=by
     simp only[Heap.get,Heap.get1,if_true];have:(cs++ds).getD j .unk=ds.getD (j-cs.length) .unk:=(by simp only[x8];rw[d9 (by omega)]);rw[this];exact vN hno _
    rw[eO hd σ]at h;cases h
 have hsome:∀(r:Nat) (π:List Nat) (t:Root),Heap.get ((n,some ⟨e,cs++ds⟩)::mF H dead) r π=some t->(r=n/\π=[]/\t=⟨e,cs++ds⟩)\/(r=n/\∃σ j,π=σ++[j]/\dead=some (qr,qπ)/\H.get qr (σ++j::qπ)=some t)\/(r≠n/\(mF H dead).get r π=some t):=(by intro r π t h;by_cases e1:n=r;{subst e1;rcases qZV π with rfl|⟨σ,j,rfl⟩;{simp only[Heap.get,Heap.get1,if_true,w7.injEq]at h;exact .inl ⟨rfl,rfl,h.symm⟩};{rw[qZY]at h ⊢;exact .inr (.inl ⟨rfl,σ,j,rfl,hin σ j t h⟩)}};{rw[bH e1]at h;exact .inr (.inr ⟨λh=>e1 h.symm,h⟩)});have hneq:∀σ j,some (qr,σ++j::qπ)≠some (qr,qπ):=λσ j h=>by simp only[w7.injEq,Prod.mk.injEq,true_and]at h;have:=congrArg List.length h;simp at this;omega
 refine⟨λr π t hr=>?_,λr π r' π' hr hr' hx hx' he=>?_⟩;{rcases hsome r π t hr with⟨rfl,rfl,rfl⟩|⟨rfl,σ,j,rfl,hd,h1⟩|⟨hne,h1⟩;{refine⟨y8 _,?_⟩;unfold NodeIs;rw[hn0];(cases hxx:ex with|false=>exact .inl ⟨rfl,hex hxx⟩|true=>refine .inr ⟨rfl,hg0 hxx,cur,hc hxx,htot hxx,hl,?_⟩;obtain⟨vs,us,v1,v2,v3⟩:=hv;show RVs Φ (r+1) β' (refer r [] 0 (cs++ds)) ((cur.toList.drop st).take (cs++ds).length);rw[v3 hxx];have ha:refer r [] 0 (cs++ds)=refer r [] 0 cs++ds:=(by refine aPz (by simp[aY]) λi hi=>?_;rw[eS];simp only[x8];by_cases hi2:i<cs.length;{rw[e7 hi2,e7 (by rw[aY];exact hi2)];exact(eS r [] 0 cs i).symm};{rw[d9 (by omega),d9 (by rw[aY];omega),aY];exact yD (vN hno _)});rw[ha];exact(aJd (Fz.le_refl Φ) (l9 _) (y8 _) hbs (k9 _) (λk=>by rw[hβn];simp) v1).append (v2.more (Fz.le_refl Φ) (l9 _) hb))};{refine⟨y8 _,?_⟩;obtain⟨g1,g2⟩:=hH.root _ _ t h1;unfold NodeIs at g2 ⊢;rw[hn1];refine g2.imp id λ⟨k1,k2,cur',k3,k4,k5,k6⟩=>⟨k1,k2,cur',?_,k4,k5,?_⟩;{rw[hgr.block _ (hH.lt h1 k1) (hother _ _ _ h1 k1 (by rw[hd];exact hneq σ j)).1];exact k3};{exact aJd (Fz.le_refl Φ) (l9 _) (y8 _) hbs (k9 _) (λk=>by rw[hβn];simp) k6}};{obtain⟨⟨t0,ht0⟩,hnd⟩:=hold r π t h1;obtain⟨g1,g2⟩:=hH1.root r π t h1;refine⟨by omega,g2.keep g1 (Fz.le_refl Φ) (l9 _) hb (λhx=>(hH1.own h1 hx).1) λhx=>?_⟩;exact hgr.block _ (hH.lt ht0 hx) (hother r π t0 ht0 hx (λe=>hnd _ _ e.symm ⟨rfl,Under.refl _⟩)).1}};{obtain⟨t,ht⟩:=y3.1 hr;obtain⟨t',ht'⟩:=y3.1 hr';rcases hsome r π t ht with⟨rfl,rfl,rfl⟩|⟨rfl,σ,j,rfl,hd,h1⟩|⟨hne,h1⟩<;>rcases hsome r' π' t' ht' with⟨rfl,rfl,rfl⟩|⟨rfl,σ',j',rfl,hd',h1'⟩|⟨hne',h1'⟩;{exact⟨rfl,rfl⟩};{rw[hn0]at hx he;rw[hn1]at hx' he;exact absurd he.symm ((hother _ _ _ h1' hx' (by rw[hd'];exact hneq σ' j')).2 hx)};{obtain⟨⟨t0,ht0⟩,hnd⟩:=hold r' π' t' h1';rw[hn0]at hx he;rw[hβo r' hne']at hx' he;exact absurd he.symm ((hother _ _ _ ht0 hx' (λe=>hnd _ _ e.symm ⟨rfl,Under.refl _⟩)).2 hx)};{rw[hn0]at hx' he;rw[hn1]at hx he;exact absurd he ((hother _ _ _ h1 hx (by rw[hd];exact hneq σ j)).2 hx')};{rw[hn1]at hx he;rw[hn1]at hx' he;obtain⟨_,e2⟩:=hH.apart _ _ _ _ (by rw[h1];rfl) (by rw[h1'];rfl) hx hx' he;refine⟨rfl,?_⟩;have e3:(σ++[j])++qπ=(σ'++[j'])++qπ:=(by simpa using e2);exact List.append_cancel_right e3};{obtain⟨⟨t0,ht0⟩,hnd⟩:=hold r' π' t' h1';rw[hn1]at hx he;rw[hβo r' hne']at hx' he;obtain⟨e1,e2⟩:=hH.apart _ _ _ _ (by rw[h1];rfl) (by rw[ht0];rfl) hx hx' he;exact absurd ⟨e1.symm,σ++[j],by rw[<-e2];simp⟩ (hnd _ _ hd)};{obtain⟨⟨t0,ht0⟩,hnd⟩:=hold r π t h1;rw[hn0]at hx' he;rw[hβo r hne]at hx he;exact absurd he ((hother _ _ _ ht0 hx (λe=>hnd _ _ e.symm ⟨rfl,Under.refl _⟩)).2 hx')};{obtain⟨⟨t0,ht0⟩,hnd⟩:=hold r π t h1;rw[hn1]at hx' he;rw[hβo r hne]at hx he;obtain⟨e1,e2⟩:=hH.apart _ _ _ _ (by rw[ht0];rfl) (by rw[h1'];rfl) hx hx' he;exact absurd ⟨e1,σ'++[j'],by rw[e2];simp⟩ (hnd _ _ hd')};{obtain⟨⟨t0,ht0⟩,hnd⟩:=hold r π t h1;obtain⟨⟨t0',ht0'⟩,hnd'⟩:=hold r' π' t' h1';rw[hβo r hne]at hx he;rw[hβo r' hne']at hx' he;exact hH1.apart _ _ _ _ (by rw[h1];rfl) (by rw[h1'];rfl) hx hx' he}}
theorem cCg {o:Oper} {t e:TypeId} {x y:Operand} {x' y':Opd} {inf:TypeInfo} {z:List AV} (ho:o.op= .call {callee:= .builtin .append,args:=#[x,y],argTypes:=#[t,t]}) (ht:P.underlying t=some (.slice e)) (hi:P.info? e=some inf)
 (hz:Go.Proofs.YtcgggihjcelmhaaGreat.zeroCells P e=some z) (hzl:z.length=inf.size) (hpos:0<inf.size) (hx:aI x=some x') (hy:aI y=some y')
 (he:Env Φ n β env a) (hH:RH Φ n β H w) (hB:Keep Φ w) (h:xop P env H n K (.app e inf.size inf.bytes z x' y')):xT P o a Φ n β K w:=by
 have h0:=aK he hx;have h1:=aK he hy;obtain⟨inf',zv,g1,g2,g3⟩:=gW hz;rw[hi]at g1;cases g1;have hzc:=(fP (Φ:=Φ) (n:=n) (β:=β) g3).length;simp only[Array.length_toList]at hzc;simp only[xop]at h;split at h
 · rename_i m ds hrd
   obtain⟨s2,c2,vs,e1,hmc,hrow,hvs,hdl⟩:=aGa hH hB hrd h1;have hvl:=hvs.length;have hnods:=aEo hvs
   have key:∀(l:Nat) (cs:List AV) (us:List Value) (dead:Option (Nat×List Nat)),0<m->((dead=none/\cs=[])\/∃r π t,dead=some (r,π)/\H.get r π=some t/\t.cs=cs)->
    RowAt w e inf.size (a.eval x) l us->RVs Φ n β (refer (dead.getD (0,[])).1 (dead.getD (0,[])).2 0 cs) us->(l+m)*inf.bytes<=2^47->l+m<=2^47->
    (∀k,(a.eval x).ownBlock=some k->Φ k=none)->
    (∀r π t,H.get r π=some t->(β r π).ex=true->some (r,π)≠dead->some (β r π).b≠(a.eval x).ownBlock)->K (.sref n [] 0 (l+m) inf.size) ((n,some ⟨e,cs++ds⟩)::mF H dead) (n+1)->xT P o a Φ n β K w:=by
    intro l cs us dead hm hdead hown hus hby hlm hfz hother hK;have hne:vs≠[]:=λe2=>by rw[e2]at hvl;simp at hvl;rw[hdl]at hvl;have:=Nat.mul_pos hm hpos;omega
    rcases hrow with e2|⟨b,p,rfl,hcell⟩;{exact absurd e2 hne}
    · obtain⟨v',w',r1,r2,r3,r5⟩:=aPs (P:=P) (w:=w) t o.type e inf zv inf.size inf.bytes ht hi g2 rfl rfl (by omega) hpos (a.eval x) l us hown ⟨b,p,none⟩ m c2 vs (by omega)
       (λj u hu=>by
        have hj:j<vs.length:=(n9.1 hu).1;rw[gO,hcell j hj];simp[x8,hu]) (λu hu=>by
        obtain⟨j,hj,rfl⟩:=List.getElem_of_mem hu;have:=(hvs.get j (by omega)).2;simpa[x8,hj]using this) (by unfold maxLen;omega) (by omega)
      have hlen:=r2.1;rcases r2.2 with⟨_,hz0⟩|⟨g,st,cap,cur,rfl,hgc,hnc,hcm,hcs,htake⟩;{omega}
      · simp only[Value.ownBlock]at r5
        have hgΦ:Φ g=none:=(by rcases r5 with r5|r5;{exact hfz g r5.symm};{obtain⟨k,e4,hk⟩:=r5;simp only[w7.injEq]at e4;subst e4;(cases e3:Φ g with|none=>rfl|some y=>have:=hB.lt e3;omega)});have hul:=hus.length;rw[aY]at hul;have hcl:(cs++ds).length=(l+m)*inf.size:=(by have:=hown.1;rw[y5,hdl,qZQ];omega);have hle:(l+m)*inf.size<=cap*inf.size:=qQZ _ hnc;have hbelow:Below 0 w w':=⟨r3.os,r3.tape,r3.output,r3.size,λk hk=>absurd hk (Nat.not_lt_zero k)⟩;have hkeep:Keep Φ w':=λb x hb=>by rw[r3.block b (hB.lt hb) (λe3=>by rw[hfz b e3.symm]at hb;cases hb)];exact hB b x hb
        refine⟨.value _,_,w',_,.sref n [] 0 (l+m) inf.size,_,n+1,aEu ho (by rw[e1];exact r1),.inl rfl,hK,l9 _,?_,?_,RH.grown (g:=g) (ex:=true) (tot:=cap*inf.size) (st:=st) (cur:=cur) hH (λ_=>hgΦ) hdead (λ_=>hgc) (λ_=>hcs) (λh=>by cases h) (by rw[hcl];exact hle) hnods ⟨us,vs,hus,hvs,λ_=>by rw[hcl,htake]⟩ r3 (λr π t hr hx2 hd=>⟨hother r π t hr hx2 hd,λ_ e3=>?_⟩),hkeep,hbelow⟩;{intro i hi;simp[show i≠n by omega]};{simp only[RV];exact⟨y8 _,_,cap,rfl,hnc,hcm,.inr ⟨by simp,by simp,by simp⟩⟩};{rcases r5 with r5|r5;{exact hother r π t hr hx2 hd (by rw[e3];exact r5)};{obtain⟨k,e4,hk⟩:=r5;simp only[w7.injEq]at e4;have:=hH.lt hr hx2;omega}}
   have keyg:∀(s:Option Addr) (dead:Option (Nat×List Nat)),0<m->((dead=none/\([]:List AV)=[])\/∃r π t,dead=some (r,π)/\H.get r π=some t/\t.cs=[])->
    a.eval x= .slice s 0 0->m*inf.bytes<=2^47->m<=2^47->(∀r π,dead=some (r,π)->(β r π).ex=false)->K (.sref n [] 0 m inf.size) ((n,some ⟨e,ds⟩)::mF H dead) (n+1)->xT P o a Φ n β K w:=by
    intro s dead hm hdead hs hby hlm hdx hK;cases s with
    |none=>refine key 0 [] [] dead hm hdead (by rw[hs];exact RowAt.nil w e inf.size) (by simp[refer,RVs]) (by simpa using hby) (by omega) (λk hk=>by rw[hs]at hk;simp[Value.ownBlock]at hk) (λr π t _ _ _=>by rw[hs];simp[Value.ownBlock]) (by simpa using hK)
    |some ad=>
     have hne:vs≠[]:=λe2=>by rw[e2]at hvl;simp at hvl;rw[hdl]at hvl;have:=Nat.mul_pos hm hpos;omega
     rcases hrow with e2|⟨b,p,rfl,hcell⟩;{exact absurd e2 hne}
     · obtain⟨v',w',r1,r2,r3⟩:=run_append_arg_grows (P:=P) w t o.type e inf zv inf.size inf.bytes ht hi g2 rfl rfl (by omega) hpos ad 0 0 [] (by simp) (by simp) ⟨b,p,none⟩ m c2 vs (by omega)
        (λj u hu=>by have hj:j<vs.length:=(n9.1 hu).1;rw[gO,hcell j hj];simp[x8,hu]) (by omega) (by unfold maxLen;omega) (by rw[p9];omega)
       have hlen:=r2.1;simp only[p9,r6]at hlen r2;rcases r2.2 with⟨_,hz0⟩|⟨g,cap,cur,rfl,hgb,hgc,hnc,hcm,hcs,htake⟩;{omega}
       · have hgΦ:Φ g=none:=by
          (cases e3:Φ g with|none=>rfl|some y=>have:=hB.lt e3;omega)
         have hbelow:Below 0 w w':=⟨r3.os,r3.tape,r3.output,r3.size,λk hk=>absurd hk (Nat.not_lt_zero k)⟩;have hkeep:Keep Φ w':=λb x hb=>by rw[r3.block b (hB.lt hb) (by simp)];exact hB b x hb
         have hle:m*inf.size<=cap*inf.size:=qQZ _ hnc;refine⟨.value _,_,w',_,.sref n [] 0 m inf.size,_,n+1,aEu ho (by rw[hs,e1];exact r1),.inl rfl,hK,l9 _,?_,?_,RH.grown (g:=g) (ex:=true) (tot:=cap*inf.size) (st:=0) (cur:=cur) (cs:=[]) hH (λ_=>hgΦ) hdead (λ_=>hgc) (λ_=>by rw[hcs,p9]) (λh=>by cases h) (by simp only[r6];rw[hdl];exact hle) hnods ⟨[],vs,by simp[refer,RVs],hvs,λ_=>by simp only[r6,List.drop_zero];rw[hdl,htake]⟩ r3 (λr π t hr hx2 hd=>⟨by simp,λ_ e3=>?_⟩),hkeep,hbelow⟩;{intro i hi;simp[show i≠n by omega]};{simp only[RV];exact⟨y8 _,_,cap,rfl,hnc,hcm,.inr ⟨by simp,by simp,by simp⟩⟩};{have:=hH.lt hr hx2;omega}
   have hsame:w.grownBy w none:=⟨rfl,rfl,rfl,k9 _,λ_ _ _=>rfl⟩
   have none0:∀(s:Option Addr) (l cap:Nat) (cs:List AV) (us:List Value) (dead:Option (Nat×List Nat)) (ex:Bool) (g tot st:Nat) (cur:Array Value),m=0->a.eval x= .slice s l cap->l<=cap->cap<=maxLen->
    ((dead=none/\cs=[])\/∃r π t,dead=some (r,π)/\H.get r π=some t/\t.cs=cs)->RVs Φ n β (refer (dead.getD (0,[])).1 (dead.getD (0,[])).2 0 cs) us->
    ((l=0/\cap=0/\ex=false)\/(ex=true/\s=some ⟨g,st,none⟩/\cap*inf.size=tot))->(ex=true->Φ g=none/\w.heap[g]? =some (.cells cur e (0,0))/\cur.size=st+tot/\(cur.toList.drop st).take cs.length=us)->(ex=false->cs=[])->cs.length<=tot->
    (∀r π t,H.get r π=some t->(β r π).ex=true->some (r,π)≠dead->ex=true->(β r π).b≠g)->K (.sref n [] 0 (l+m) inf.size) ((n,some ⟨e,cs++ds⟩)::mF H dead) (n+1)->xT P o a Φ n β K w:=by
    intro s l cap cs us dead ex g tot st cur hm q1 q2 q3 hdead hus hat hexx hcs0 hcl hother hK;subst hm;have hds:ds=[]:=m6.1 (by omega);subst hds;refine⟨.value (a.eval x),_,w,_,.sref n [] 0 (l+0) inf.size,_,n+1,aEu ho (by rw[q1,e1];exact aTh ht hi _ _ _ q2 s2 c2),.inl rfl,hK,l9 _,?_,?_,RH.grown (g:=g) (ex:=ex) (tot:=tot) (st:=st) (cur:=cur) (row:=none) hH (λh=>(hexx h).1) hdead (λh=>(hexx h).2.1) (λh=>(hexx h).2.2.1) (λh=>by simp[hcs0 h]) (by simpa using hcl) rfl ?_ hsame (λr π t hr hx2 hd=>⟨by simp,λhx=>hother r π t hr hx2 hd hx⟩),hB,Below.refl _ _⟩;{intro i hi;simp[show i≠n by omega]};{simp only[RV,qZU];exact⟨y8 _,s,cap,q1,q2,q3,by simpa using hat⟩}
    · cases hxx:ex with
      |true=>refine⟨us,[],hus,by simp[RVs],λ_=>?_⟩;have:=(hexx hxx).2.2.2;simpa using this
      |false=>have hc0:=hcs0 hxx;subst hc0;exact⟨[],[],by simp[refer,RVs],by simp[RVs],λh=>by cases h⟩
   split at h;{rename_i es;rw[es]at h0;simp only[RV]at h0;obtain⟨⟨b1,b2⟩,hK⟩:=h;by_cases hm:m=0;{exact none0 none 0 0 [] [] none false 0 0 0 #[] hm h0 (k9 _) (m9 _) (.inl ⟨rfl,rfl⟩) (by simp[refer,RVs]) (.inl ⟨rfl,rfl,rfl⟩) (λh=>by cases h) (λ_=>rfl) (m9 _) (λ_ _ _ _ _ _ h=>by cases h) (by simpa[mF]using hK)};{exact keyg none none (by omega) (.inl ⟨rfl,rfl⟩) h0 b1 b2 (λ_ _ h=>by cases h) (by simpa[mF]using hK)}};{rename_i es;rw[es]at h0;simp only[RV]at h0;obtain⟨s0,h0⟩:=h0;obtain⟨⟨b1,b2⟩,hK⟩:=h;by_cases hm:m=0;{exact none0 s0 0 0 [] [] none false 0 0 0 #[] hm h0 (k9 _) (m9 _) (.inl ⟨rfl,rfl⟩) (by simp[refer,RVs]) (.inl ⟨rfl,rfl,rfl⟩) (λh=>by cases h) (λ_=>rfl) (m9 _) (λ_ _ _ _ _ _ h=>by cases h) (by simpa[mF]using hK)};{exact keyg s0 none (by omega) (.inl ⟨rfl,rfl⟩) h0 b1 b2 (λ_ _ h=>by cases h) (by simpa[mF]using hK)}}
   · rename_i sv hne
     split at h
     · rename_i l cs r π hop
       obtain⟨⟨b1,b2⟩,hK⟩:=h;cases hsv:x'.val env with
       |sref r' π' o' l' sz'=>
        rw[hsv]at hop h0;simp only[aGg]at hop;split at hop
        · rename_i t' hr
          split at hop
          · rename_i hc
            simp only[w7.injEq,Prod.mk.injEq]at hop;obtain⟨rfl,rfl,rfl,rfl⟩:=hop;obtain⟨rfl,rfl,rfl,hcl⟩:=hc;simp only[RV]at h0;obtain⟨hrn,s,cap,q1,q2,q3,q4⟩:=h0;have hd:(some (r',π')=none/\t'.cs=[])\/∃r π t,some (r',π')=some (r,π)/\H.get r π=some t/\t.cs=t'.cs:= .inr ⟨r',π',t',rfl,hr,rfl⟩;rcases q4 with⟨c1,c2',c3|c3⟩|⟨q4,rfl,q5⟩;{exact absurd rfl c3};{subst c1;subst c2';have hcs0:t'.cs=[]:=m6.1 (by omega);by_cases hm:m=0;{exact none0 s 0 0 t'.cs [] (some (r',π')) false 0 0 0 #[] hm q1 (k9 _) (m9 _) hd (by rw[hcs0];simp[refer,RVs]) (.inl ⟨rfl,rfl,rfl⟩) (λh=>by cases h) (λ_=>hcs0) (by rw[hcs0];exact m9 _) (λ_ _ _ _ _ _ h=>by cases h) hK};{rw[hcs0]at hK;simp only[p9,r6]at hK b1 b2;exact keyg s (some (r',π')) (by omega) (.inr ⟨r',π',t',rfl,hr,hcs0⟩) q1 b1 b2 (λr π h=>by cases h;exact c3) hK}}
            · obtain⟨u2,cur,u3,u4,u5,u6⟩:=hH.own hr q4
              have htk:(cur.toList.drop (β r' π').st).take (l'*inf.size)=(cur.toList.drop (β r' π').st).take t'.cs.length:=(by rw[hcl]);have hoth:∀r π t,H.get r π=some t->(β r π).ex=true->some (r,π)≠some (r',π')->(β r π).b≠(β r' π').b:=λr π t h1 h2 h3 e3=>by obtain⟨rfl,rfl⟩:=hH.apart _ _ _ _ (by simp[h1]) (by simp[hr]) h2 q4 e3;exact h3 rfl
              by_cases hm:m=0;{exact none0 _ l' cap t'.cs _ (some (r',π')) true (β r' π').b (β r' π').tot (β r' π').st cur hm q1 q2 q3 hd u6 (.inr ⟨rfl,rfl,by simpa using q5⟩) (λ_=>⟨u2,u3,u4,rfl⟩) (λh=>by cases h) u5 (λr π t h1 h2 h3 _=>hoth r π t h1 h2 h3) hK}
              · have hown:RowAt w t'.e inf.size (a.eval x) l' ((cur.toList.drop (β r' π').st).take t'.cs.length):=by
                 refine⟨by simp;omega,.inr ⟨_,_,cap,cur,q1,u3,q2,q3,by omega,htk⟩⟩
                exact key l' t'.cs _ (some (r',π')) (by omega) hd hown u6 b1 b2 (λk hk=>by rw[q1]at hk;simp only[Value.ownBlock,w7.injEq]at hk;rw[<-hk];exact u2) (λr π t h1 h2 h3=>by rw[q1];simp only[Value.ownBlock,ne_eq,w7.injEq];exact hoth r π t h1 h2 h3) hK
          {cases hop}
        {cases hop}
       |_=>rw[hsv]at hop;simp[aGg]at hop
     {exact h.elim}
 {exact h.elim}
end
section
variable {P : Program} {Φ : Fz} {n : Nat} {β : Spots} {env : List AV} {H : Heap} {a : Act} {w : World} {K : AV → Heap → Nat → Prop}
theorem aPf(he:Env Φ n β env a){x:Option Operand}{y:Option Opd}{d z:Int}(hl:rR x=some y)(hb:dY env y d=some z):
 (x=none/\z=d)\/∃u k,x=some u/\a.eval u= .int k z:=by
 (cases x with|none=>simp only[rR,w7.injEq]at hl;subst hl;simp only[dY,w7.injEq]at hb;exact .inl ⟨rfl,hb.symm⟩|some u=>simp only[rR]at hl;obtain⟨y',h1,rfl⟩:=w9.1 hl;have h0:=aK he h1;simp only[dY]at hb;split at hb;{rename_i k z' e1;cases hb;rw[e1]at h0;simp only[RV]at h0;exact .inr ⟨u,k,rfl,h0.1⟩};{cases hb})
theorem bKf {x y:Option Operand} {l h:Int} {m cap:Nat} (hx:(x=none/\l=0)\/∃u k,x=some u/\a.eval u= .int k l) (hy:(y=none/\h=m)\/∃u k,y=some u/\a.eval u= .int k h)
 (h0:0<=l) (h1:l<=h) (h2:h<=m) (hmc:m<=cap) (w:World):(Instr.sliceBounds true m cap (x.map a.eval) (y.map a.eval) none).run P w= .ok (l.toNat,h.toNat,cap) w:=by
 have e1:0<=h:=(by omega);have e2:h<=(cap:Int):=(by omega);have e3:(h.toNat:Int)=h:=Int.toNat_of_nonneg e1;rcases hx with⟨rfl,rfl⟩|⟨u,k,rfl,e4⟩<;>rcases hy with⟨rfl,rfl⟩|⟨u',k',rfl,e5⟩;{simp[Instr.sliceBounds]};{simp[Instr.sliceBounds,Instr.sliceBound,e5,asIntOf,e1,e2]};{simp[Instr.sliceBounds,Instr.sliceBound,e4,asIntOf,h0,h1]};{simp[Instr.sliceBounds,Instr.sliceBound,e4,e5,asIntOf,e1,e2,h0,h1,e3]}
theorem bQz {o:Oper} {t e:TypeId} {x:Operand} {lo hi:Option Operand} {x':Opd} {lo' hi':Option Opd} {inf:TypeInfo} (ho:o.op= .slice t x lo hi none) (ht:P.underlying t=some (.slice e)) (hi0:P.info? e=some inf) (hpos:0<inf.size)
 (hx:aI x=some x') (hlo:rR lo=some lo') (hhi:rR hi=some hi')
 (he:Env Φ n β env a) (h:xop P env H n K (.slc inf.size x' lo' hi')):QDone P o a Φ n β H K w:=by
 have h0:=aK he hx
 have key:∀(s:Option Addr) (m cap:Nat) (l h:Int),a.eval x= .slice s m cap->dY env lo' 0=some l->dY env hi' m=some h->0<=l->l<=h->h<=m->m<=cap->∀w',
  (execOp a.eval o).run P w'= .ok (.value (.slice (if cap=l.toNat then s else s.map (·.add (l.toNat*inf.size))) (h.toNat-l.toNat) (cap-l.toNat))) w':=by
  intro s m cap l h e1 hl hh k0 k1 k2 k3 w';have hb:=bKf (P:=P) (aPf he hlo hl) (aPf he hhi hh) k0 k1 k2 k3 w';simp[execOp,ho,Instr.sliceAt,Instr.slice,run_underlying ht,e1,hb,sizeOf,typeInfo,hi0]
 simp only[xop]at h;split at h
 · rename_i l hl
   split at h;{rename_i e1;rw[e1]at h0;simp only[RV]at h0;split at h;{rename_i hh hhh;obtain⟨⟨rfl,rfl⟩,hK⟩:=h;have:=key none 0 0 0 0 h0 hl hhh (Int.le_refl _) (Int.le_refl _) (by simp) (k9 _);refine aO (v:= .slice none 0 0) (λw' _=>by rw[this w'];simp) (by simp[RV]) hK};{exact h.elim}}
   · rename_i r π p m sz' e1
     rw[e1]at h0;simp only[RV]at h0;split at h
     · rename_i hh hhh
       obtain⟨⟨rfl,k0,k1,k2⟩,hK⟩:=h;obtain⟨hrn,s,cap,q1,q2,q3,q4⟩:=h0;refine aO (λw' _=>key s m cap l hh q1 hl hhh k0 k1 k2 q2 w') ?_ hK;simp only[RV];refine⟨hrn,_,_,rfl,by omega,by omega,?_⟩;have hL:(l.toNat:Int)=l:=Int.toNat_of_nonneg k0;have hH':(hh.toNat:Int)=hh:=Int.toNat_of_nonneg (by omega);by_cases hc:cap=l.toNat
       {rw[if_pos hc];by_cases hz:l.toNat=0;{rw[hz]at hc ⊢;rcases q4 with⟨q4,q5,q6⟩|⟨q4,q5,q6⟩;{exact .inl ⟨by omega,by omega,by simpa using q6⟩};{exact .inr ⟨q4,by simpa using q5,by simp only[hc]at q6 ⊢;simpa using q6⟩}};{have:=Nat.mul_pos (Nat.pos_of_ne_zero hz) hpos;exact .inl ⟨by omega,by omega,.inl (by omega)⟩}};{rw[if_neg hc];rcases q4 with⟨q4,q5,q6⟩|⟨q4,rfl,q6⟩;{omega};{refine .inr ⟨q4,by simp[gO],?_⟩;have:l.toNat<=cap:=(by omega);rw[m4,<-qZQ,show l.toNat+(cap-l.toNat)=cap by omega];exact q6}}
     {exact h.elim}
   · rename_i m cs e1
     rw[e1]at h0;simp only[RV]at h0;split at h
     · rename_i hh hhh
       obtain⟨⟨hcs,k0,k1,k2⟩,hK⟩:=h;obtain⟨s,cap,vs,q1,q2,q3,q4,q5⟩:=h0;refine aO (λw' _=>key s m cap l hh q1 hl hhh k0 k1 k2 q2 w') ?_ hK;simp only[RV];have hL:(l.toNat:Int)=l:=Int.toNat_of_nonneg k0;have hH':(hh.toNat:Int)=hh:=Int.toNat_of_nonneg (by omega);have hvl:=q5.length;refine⟨_,_,(vs.drop (l.toNat*inf.size)).take ((hh.toNat-l.toNat)*inf.size),rfl,by omega,by omega,?_,(q5.drop _).take _⟩;by_cases hz:hh.toNat=l.toNat
       {refine .inl ?_;rw[hz,Nat.sub_self,Nat.zero_mul,List.take_zero]};{rw[if_neg (by omega)];rcases q4 with rfl|⟨b,p,ar,ee,fz,rfl,hb,hcell⟩;{exact .inl (by simp)};{refine .inr ⟨b,p+l.toNat*inf.size,ar,ee,fz,by simp[gO],hb,λi hi=>?_⟩;simp only[m7,p8]at hi;have hlt:l.toNat*inf.size+i<vs.length:=(by omega);have:=hcell (l.toNat*inf.size+i) hlt;rw[m4,this];simp[x8,qQJ,t9,show i<(hh.toNat-l.toNat)*inf.size by omega]}}
     {exact h.elim}
   {exact h.elim}
 {exact h.elim}
theorem bPx {o:Oper} {src dst:TypeId} {k k':IntKind} {x:Operand} {x':Opd} (ho:o.op= .convert src dst x) (hs:P.underlying src=some (.int k')) (hd:P.underlying dst=some (.int k)) (hx:aI x=some x')
 (he:Env Φ n β env a) (h:xop P env H n K (.cvt k x')):QDone P o a Φ n β H K w:=by
 have h0:=aK he hx;simp only[xop]at h;split at h;{rename_i k2 z e1;rw[e1]at h0;simp only[RV]at h0;exact aO (v:= .int k (k.wrap z)) (λw' _=>by simp[execOp,ho,h0.1,convert,run_underlying hs,run_underlying hd,Conv.intToInt]) (by simp[RV,wrap_within]) h};{exact h.elim}
end
section
variable {P : Program} {Φ : Fz} {n : Nat} {β : Spots} {env : List AV} {H : Heap} {a : Act} {w : World} {K : AV → Heap → Nat → Prop}
theorem bOm{k:IntKind}{a:Int}{m:Nat}(ha:k.min<=a/\a<=k.max):k.min<=a.fdiv (2^m)/\a.fdiv (2^m)<=k.max:=by
 have hm:=bIo k;have hp:(0:Int)<2^m:=Int.pow_pos (by omega);rw[Int.fdiv_eq_ediv_of_nonneg a (by omega)];generalize(2:Int)^m=d at hp;rcases Int.le_total 0 a with h|h;{have h1:=Int.ediv_nonneg h (by omega:0<=d);have h2:=Int.ediv_le_self d h;omega}
 · have h1:a<=a/d:=by
    rw[Int.le_ediv_iff_mul_le hp];have:=Int.mul_le_mul_of_nonpos_left (a:=a) (b:=d) (c:=1) h (by omega);omega
   have h2:a/d<=0:=(by have:=Int.ediv_le_ediv hp h;simpa using this);omega
theorem aZk {o:Oper} {left:Bool} {op:BinOp} {t t':TypeId} {x y:Operand} {x' y':Opd} (ho:o.op= .binOp op t x y t') (hop:op=match left with|true=> .shl|false=> .shr) (hx:aI x=some x') (hy:aI y=some y')
 (he:Env Φ n β env a) (h:xop P env H n K (.sh left x' y')):QDone P o a Φ n β H K w:=by
 have h0:=aK he hx;have h1:=aK he hy;simp only[xop]at h;split at h
 · rename_i k z k' z' e1 e2
   rw[e1]at h0;rw[e2]at h1;simp only[RV]at h0 h1;obtain⟨hz,hK⟩:=h;have hn:¬z'<0:=(by omega);subst hop;have hg:∀(op:BinOp) w',(eqGuard op t x y (.int k z) (.int k' z')).run P w'= .ok () w':=λop w'=>by unfold eqGuard;cases op<;>simp
   cases left;{exact aO (v:= .int k (z.fdiv (2^(min z'.toNat k.bits)))) (λw' _=>by simp[execOp,ho,h0.1,h1.1,hg,binOp,Op.shift,hn]) (by simp only[RV];exact⟨trivial,bOm h0.2⟩) hK};{exact aO (v:= .int k (k.wrap (z*2^(min z'.toNat k.bits)))) (λw' _=>by simp[execOp,ho,h0.1,h1.1,hg,binOp,Op.shift,hn]) (by simp[RV,wrap_within]) hK}
 {exact h.elim}
theorem bRg{o:Oper}{x:Operand}{x':Opd}(ho:o.op= .nilCheck x)(hx:aI x=some x')(he:Env Φ n β env a)(h:xop P env H n K (.nck x')):QDone P o a Φ n β H K w:=by have h0:=aK he hx;simp only[xop]at h;split at h;{rename_i r π p e1;rw[e1]at h0;have hv:=h0;simp only[RV]at h0;refine aO (v:=a.eval x) (λw' _=>?_) hv h;simp[execOp,ho,h0.2.2]};{rename_i cs p e1;rw[e1]at h0;have hv:=h0;simp only[RV]at h0;obtain⟨s,q,vs,h4,_⟩:=h0;refine aO (v:=a.eval x) (λw' _=>?_) hv h;simp[execOp,ho,h4]};{exact h.elim}
theorem aZg {o:Oper} {most:Bool} {x y:Operand} {x' y':Opd} {ats:Array TypeId} (ho:o.op= .call {callee:= .builtin (match most with|true=> .max|false=> .min),args:=⟨[x,y]⟩,argTypes:=ats}) (hx:aI x=some x') (hy:aI y=some y')
 (he:Env Φ n β env a) (h:xop P env H n K (.mx most x' y')):QDone P o a Φ n β H K w:=by
 have h0:=aK he hx;have h1:=aK he hy;simp only[xop]at h;split at h;{rename_i k z k' z' e1 e2;rw[e1]at h0;rw[e2]at h1;simp only[RV]at h0 h1;obtain⟨rfl,hK⟩:=h;cases most;{refine aO (v:= .int k (min z z')) (λw' _=>?_) (by simp only[RV];exact⟨trivial,by omega,by omega⟩) hK;have:(if z'<z then z' else z)=min z z':=(by omega);simp[execOp,ho,resolve,invoke,builtin,h0.1,h1.1,Builtin.min_,Builtin.min2,this]};{refine aO (v:= .int k (max z z')) (λw' _=>?_) (by simp only[RV];exact⟨trivial,by omega,by omega⟩) hK;have:(if z<z' then z' else z)=max z z':=(by omega);simp[execOp,ho,resolve,invoke,builtin,h0.1,h1.1,Builtin.max_,Builtin.max2,this]}};{exact h.elim}
theorem aPw{xs ys:List AV}:∀{l1 l2:List (Nat×Bool)} {b:Bool},tX xs ys (l1++l2)=some b->∃b1 b2,tX xs ys l1=some b1/\tX xs ys l2=some b2/\b=(b1&&b2)
 |[],l2,b,h=>⟨true,b,rfl,h,rfl⟩
 |(o,t)::l1,l2,b,h=>by simp only[n7,tX]at h ⊢;split at h;{rename_i k a k' c r e1 e2 e3;obtain⟨b1,b2,h1,h2,h3⟩:=aPw e3;rw[e1,e2,h1];split at h;{rename_i hk;simp only[w7.injEq]at h;exact⟨decide (a=c)&&b1,b2,by simp only[hk,if_true],h2,by rw[<-h,h3,Bool.and_assoc]⟩};{cases h}};{rename_i a c r e1 e2 e3;obtain⟨b1,b2,h1,h2,h3⟩:=aPw e3;rw[e1,e2,h1];simp only[w7.injEq]at h;exact⟨(a==c)&&b1,b2,rfl,h2,by rw[<-h,h3,Bool.and_assoc]⟩};{cases h}
theorem aVc{xs ys:List AV}{off m:Nat}:∀{l:List (Nat×Bool)},(∀q∈l,q.1<m)->tX xs ys (l.map λq=>(off+q.1,q.2))=tX ((xs.drop off).take m) ((ys.drop off).take m) l
 |[],_=>rfl
 |(o,t)::l,h=>by
  have g:∀zs:List AV,((zs.drop off).take m).getD o .unk=zs.getD (off+o) .unk:=λzs=>by simp only[List.getD_eq_getElem?_getD];rw[List.getElem?_take_of_lt (h (o,t) (by simp)),t9]
  simp only[m5,tX];rw[aVc (λq hq=>h q (by simp[hq])),g,g]
def Cmp(P:Program)(w:World)(d:Nat)(xs ys:List AV)(vs us:Array Value)(f:Field)(l:List (Nat×Bool)):Prop:=f.name≠"_"/\∀b,tX xs ys l=some b->∃v u,(part f.type vs f.offset).run P w= .ok v w/\(part f.type us f.offset).run P w= .ok u w/\(Op.equalIn d f.type v u).run P w= .ok b w
theorem aDl{d:Nat}{xs ys:List AV}{vs us:Array Value}{L:Field->List (Nat×Bool)}:∀{fs:List Field} {b:Bool},(∀f∈fs,Cmp P w d xs ys vs us f (L f))->tX xs ys (fs.flatMap L)=some b->(Op.eqFields d vs us fs).run P w= .ok b w
 |[],b,_,h=>by simp only[List.flatMap_nil,tX,w7.injEq]at h;subst h;simp[Op.eqFields]
 |f::fs,b,hc,h=>by rw[List.flatMap_cons]at h;obtain⟨b1,b2,h1,h2,rfl⟩:=aPw h;obtain⟨hn,hf⟩:=hc f (by simp);obtain⟨v,u,g1,g2,g3⟩:=hf b1 h1;have ih:=aDl (λf hf=>hc f (by simp[hf])) h2;simp only[Op.eqFields,ne_eq,hn,not_false_eq_true,if_true,Sem.run_bind,g1,g2,g3,Result.andThen_ok];cases b1<;>simp[ih]
theorem aPx{d:Nat}{xs ys:List AV}{vs us:Array Value}(hx:RVs Φ n β xs vs.toList)(hy:RVs Φ n β ys us.toList){f:Field}(hname:f.name≠"_")(hty:(match P.underlying f.type with|some (.int _)=>true|some .bool=>true|_=>false)=true):Cmp P w (d+1) xs ys vs us f [fieldAt P f]:=by
 refine⟨hname,λb h=>?_⟩;simp only[fieldAt,tX]at h;have part_run:∀(cs:Array Value) (off:Nat) (v:Value),cs[off]? =some v->(part f.type cs off).run P w= .ok v w:=(by intro cs off v hv;have hia:(isAgg f.type).run P w= .ok false w:=(by unfold isAgg;(cases hu:P.underlying f.type with|none=>rw[hu]at hty;simp at hty|some u=>simp only[Sem.run_bind,run_underlying hu,Result.andThen_ok];rw[hu]at hty;cases u<;>simp_all));simp only[part,Sem.run_bind,hia,Result.andThen_ok];simp[hv]);have getx:∀{zs:List AV} {ws:Array Value},RVs Φ n β zs ws.toList->∀{x:AV},zs.getD f.offset .unk=x->x≠ .unk->∃v,ws[f.offset]? =some v/\RV Φ n β x v:=(by intro zs ws hz x hxx hne;have hl:=hz.length;simp only[Array.length_toList]at hl;have hlt:f.offset<zs.length:=(by rcases Nat.lt_or_ge f.offset zs.length with h1|h1;{exact h1};{exfalso;apply hne;rw[<-hxx];simp[x8,Nat.not_lt.2 h1]});have:=(hz.get f.offset hlt).1;rw[hxx]at this;refine⟨ws[f.offset]'(by omega),by simp[hl,hlt],?_⟩;simpa[x8,hl,hlt]using this);split at h
 · rename_i k1 z1 k2 z2 r e0 e1 e2 e3
   split at h
   case isFalse=>cases h
   rename_i hkk;subst hkk;simp only[w7.injEq]at h e3;subst h e3;obtain⟨v1,g1,g2⟩:=getx hx e1 (by simp);obtain⟨v2,g3,g4⟩:=getx hy e2 (by simp);simp only[RV]at g2 g4;obtain⟨rfl,_⟩:=g2;obtain⟨rfl,_⟩:=g4;refine⟨_,_,part_run _ _ _ g1,part_run _ _ _ g3,?_⟩;(cases hu:P.underlying f.type with|none=>rw[hu]at hty;simp at hty|some u=>rw[hu]at hty e0;cases u<;>simp only[o8,reduceCtorEq]at hty e0;have hq:(Op.equalIn (d+1) f.type (.int k1 z1) (.int k1 z2)).run P w= .ok (z1==z2) w:=(by simp[Op.equalIn,run_underlying hu]);rw[hq,Bool.and_true];by_cases hz:z1=z2<;>simp[hz])
 {rename_i b1 b2 r e0 e1 e2 e3;simp only[w7.injEq]at h e3;subst h e3;obtain⟨v1,g1,g2⟩:=getx hx e1 (by simp);obtain⟨v2,g3,g4⟩:=getx hy e2 (by simp);simp only[RV]at g2 g4;subst g2;subst g4;refine⟨_,_,part_run _ _ _ g1,part_run _ _ _ g3,?_⟩;(cases hu:P.underlying f.type with|none=>rw[hu]at hty;simp at hty|some u=>rw[hu]at hty e0;cases u<;>simp only[o8,reduceCtorEq]at hty e0;simp[Op.equalIn,run_underlying hu])};{cases h}
theorem bOt{d:Nat}{xs ys:List AV}{vs us:Array Value}(hx:RVs Φ n β xs vs.toList)(hy:RVs Φ n β ys us.toList){f:Field}(hf:aKi P f=true):Cmp P w (d+1+1) xs ys vs us f (leaves P f):=by
 simp only[aKi,x5,bne_iff_ne,ne_eq]at hf;obtain⟨hn,hf⟩:=hf;unfold leaves;split at hf;{rename_i k hu;rw[hu];exact aPx hx hy hn (by rw[hu])};{rename_i hu;rw[hu];exact aPx hx hy hn (by rw[hu])}
 · rename_i gs hu
   rw[hu];simp only[x5,u0]at hf;obtain⟨⟨h1,h2⟩,h3⟩:=hf;split at h3
   case h_2=>cases h3
   rename_i inf hi;refine⟨hn,λb h=>?_⟩;have hia:(isAgg f.type).run P w= .ok true w:=(by unfold isAgg;simp only[Sem.run_bind,run_underlying hu,Result.andThen_ok];rfl);have hpart:∀cs:Array Value,(part f.type cs f.offset).run P w= .ok (.agg (cs.extract f.offset (f.offset+inf.size))) w:=λcs=>by simp[part,hia,sizeOf,typeInfo,hi]
   have hcut:∀{zs:List AV} {ws:Array Value},RVs Φ n β zs ws.toList->RVs Φ n β ((zs.drop f.offset).take inf.size) (ws.extract f.offset (f.offset+inf.size)).toList:=λhz=>by have:=(hz.drop f.offset).take inf.size;simpa[Array.toList_extract,List.extract_eq_take_drop,List.take_drop,Nat.add_comm]using this
   refine⟨_,_,hpart vs,hpart us,?_⟩;have hfs:P.fieldsOf f.type=gs:=(by simp[Program.fieldsOf,hu]);rw[run_equalIn_struct (P:=P) w (d+1) f.type _ _ (by rw[hfs];exact hu) h2,hfs];refine aDl (xs:=(xs.drop f.offset).take inf.size) (ys:=(ys.drop f.offset).take inf.size) (L:=λg=>[fieldAt P g]) (λg hg=>?_) ?_;{have hg2:=w5.1 h1 g hg;simp only[aUm,x5,bne_iff_ne,ne_eq]at hg2;exact aPx (hcut hx) (hcut hy) hg2.1 hg2.2};{rw[<-h,<-List.map_eq_flatMap,<-aVc (l:=gs.toList.map (fieldAt P)) (λq hq=>?_),List.map_map];rfl;obtain⟨g,hg,rfl⟩:=List.mem_map.1 hq;have:=w5.1 h3 g hg;exact(Nat.blt_eq▸this:g.offset<inf.size)}
 {cases hf}
theorem aVk {o:Oper} {ng:Bool} {op:BinOp} {t t':TypeId} {fs:Array Field} {x y:Operand} {x' y':Opd} (ho:o.op= .binOp op t x y t') (ht:P.underlying t=some (.struct fs)) (hp:aFe P t fs=true) (hop:op=match ng with|true=> .neq|false=> .eql)
 (hx:aI x=some x') (hy:aI y=some y') (he:Env Φ n β env a) (h:xop P env H n K (.beq ng (fs.toList.flatMap (leaves P)) x' y')):QDone P o a Φ n β H K w:=by
 have h0:=aK he hx;have h1:=aK he hy;simp only[aFe,x5,u0]at hp;obtain⟨⟨hp1,hp2⟩,hp3⟩:=hp;have hfs:P.fieldsOf t=fs:=(by simp[Program.fieldsOf,ht]);simp only[xop]at h;split at h
 · rename_i xs ys e1 e2
   rw[e1]at h0;rw[e2]at h1;simp only[RV]at h0 h1;obtain⟨vs,g1,g2⟩:=h0;obtain⟨us,g3,g4⟩:=h1;split at h
   · rename_i r hr
     subst hop;have hq:∀w',(Op.equalIn 10000 t (.agg vs) (.agg us)).run P w'= .ok r w':=λw'=>by show(Op.equalIn (9998+1+1) t _ _).run P w'=_;rw[run_equalIn_struct (P:=P) w' (9998+1) t vs us (by rw[hfs];exact ht) hp2,hfs];exact aDl (λf hf=>bOt (d:=9997) g2 g4 (w5.1 hp1 f hf)) hr
     cases ng;{exact aO (v:= .bool r) (λw' _=>by simp only[execOp,ho,g1,g3,Sem.run_bind,run_eqGuard_agg w' .eql t x y vs us hp3,Result.andThen_ok,run_eql_struct,hq,Sem.run_pure]) (by simp[RV]) h};{exact aO (v:= .bool (!r)) (λw' _=>by simp only[execOp,ho,g1,g3,Sem.run_bind,run_eqGuard_agg w' .neq t x y vs us hp3,Result.andThen_ok,run_neq_struct,hq,Sem.run_pure]) (by simp[RV]) h}
   {exact h.elim}
 {exact h.elim}
theorem cDr {o:Oper} {t t2 e:TypeId} {x y:Operand} {x' y':Opd} {inf:TypeInfo} (ho:o.op= .call {callee:= .builtin .copy,args:=⟨[x,y]⟩,argTypes:=⟨[t,t2]⟩}) (ht:P.underlying t=some (.slice e)) (hi:P.info? e=some inf) (hpos:0<inf.size)
 (hx:aI x=some x') (hy:aI y=some y') (he:Env Φ n β env a) (hH:RH Φ n β H w) (hB:Keep Φ w) (h:xop P env H n K (.cpy inf.size x' y')):xT P o a Φ n β K w:=by
 have h0:=aK he hx;have h1:=aK he hy;simp only[xop]at h;split at h
 · rename_i m2 ds hrd
   obtain⟨s2,c2,vs,e1,hmc,hrow,hvs,hdl⟩:=aGa hH hB hrd h1;have hvl:=hvs.length;have hrun:∀v' w',(Builtin.copy_ #[t,t2] o.type #[a.eval x,a.eval y]).run P w= .ok v' w'->(execOp a.eval o).run P w= .ok (.value v') w':=λv' w' h=>by simp[execOp,ho,resolve,invoke,builtin,h]
   have hnil:∀s d c,a.eval x= .slice s d c->Nat.min m2 d=0->(execOp a.eval o).run P w= .ok (.value (.int .i64 0)) w:=λs d c hs hm=>by
    have hl:∀(q:Addr),(loadCells q 0).run P w= .ok #[] w:=λq=>by simpa using run_loadCells_list (P:=P) w q [] (by simp)
    refine hrun _ _ ?_;rw[hs,e1];cases s<;>cases s2<;>simp[Builtin.copy_,run_underlying ht,Builtin.lenOf,Builtin.firstCells,sizeOf,typeInfo,hi,hm,storeCells,hl,goInt]
   split at h;{rename_i r π p m sz' ev;rw[ev]at h0;simp only[RV]at h0;obtain⟨hrn,s,cap,q1,q2,q3,q4⟩:=h0;split at h;{rename_i t' hr;obtain⟨⟨rfl,hlen⟩,hK⟩:=h;by_cases hz:min m m2=0;{rw[hz]at hK;simp only[Nat.zero_mul,List.take_zero,aT]at hK;refine⟨.value (.int .i64 0),_,w,β,.int .i64 0,_,n,hnil s m cap q1 (by rw[<-hz];exact Nat.min_comm _ _),.inl rfl,by simpa using hK,k9 _,λ_ _=>rfl,by simp[RV,IntKind.min,IntKind.max,IntKind.signed,IntKind.bits],hH.congr λr' π'=>aSh hr r' π',hB,Below.refl _ _⟩};{rcases q4 with⟨rfl,_⟩|⟨hex,rfl,q5⟩;{simp at hz};{rcases hrow with e2|⟨b,q,rfl,hcell⟩;{subst e2;simp only[l7]at hvl;have:m2*inf.size=0:=(by omega);rcases Nat.mul_eq_zero.1 this with h|h<;>omega};{have hkle:min m m2*inf.size<=m2*inf.size:=qQZ _ (Nat.min_le_right _ _);have hkle2:min m m2*inf.size<=m*inf.size:=qQZ _ (Nat.min_le_left _ _);have hld:(loadCells ⟨b,q,none⟩ (min m m2*inf.size)).run P w= .ok (vs.take (min m m2*inf.size)).toArray w:=(by have:=run_loadCells_list (P:=P) w ⟨b,q,none⟩ (vs.take (min m m2*inf.size)) (λj v hj=>by have hj':=(n9.1 hj).1;simp only[m7]at hj';rw[gO,hcell j (by omega)];rw[qQJ,if_pos (by omega)]at hj;simp[x8,hj]);rwa[m7,Nat.min_eq_left (by omega)]at this);have hvt:=hvs.take (min m m2*inf.size);obtain⟨w',r1,r2,r3,r4⟩:=vG (P:=P) (r:=r) (o:=p) (π:=π) (ds.take (min m m2*inf.size)) (vs.take (min m m2*inf.size)) 0 t' H w hH hB hr (by simp only[m7];omega) hvt;refine⟨.value (.int .i64 (min m m2:Nat)),_,w',β,.int .i64 (min m m2:Nat),_,n,hrun _ _ ?_,.inl rfl,hK,k9 _,λ_ _=>rfl,?_,by simpa using r2,r3,r4⟩;{rw[q1,e1];have hmin:Nat.min m2 m=min m m2:=Nat.min_comm _ _;simp[Builtin.copy_,run_underlying ht,Builtin.lenOf,Builtin.firstCells,sizeOf,typeInfo,hi,hmin,hld,r1,goInt]};{unfold maxLen at q3;have hmc2:min m m2<=m:=Nat.min_le_left _ _;simp only[RV,IntKind.min,IntKind.max,IntKind.signed,IntKind.bits];refine⟨trivial,by simp<;>omega,by simp<;>omega⟩}}}}};{exact h.elim}};{rename_i ev;rw[ev]at h0;simp only[RV]at h0;exact⟨.value (.int .i64 0),_,w,β,.int .i64 0,H,n,hnil none 0 0 h0 (Nat.min_zero _),.inl rfl,h,k9 _,λ_ _=>rfl,by simp[RV,IntKind.min,IntKind.max,IntKind.signed,IntKind.bits],hH,hB,Below.refl _ _⟩};{rename_i ev;rw[ev]at h0;simp only[RV]at h0;obtain⟨s0,h0⟩:=h0;exact⟨.value (.int .i64 0),_,w,β,.int .i64 0,H,n,hnil s0 0 0 h0 (Nat.min_zero _),.inl rfl,h,k9 _,λ_ _=>rfl,by simp[RV,IntKind.min,IntKind.max,IntKind.signed,IntKind.bits],hH,hB,Below.refl _ _⟩};{exact h.elim}
 {exact h.elim}
end
def LOp.isCall:LOp->Bool
 | .call _ _=>true
 |_=>false
def LOp.quiet:LOp->Bool
 | .mv _| .pick _ _ _| .bld _ _| .load _ _ _| .bin _ _ _| .binb _ _ _| .un _ _| .fadr _ _| .fld _ _ _ _| .iadr _ _ _| .ext _ _| .len _| .slc _ _ _ _| .cvt _ _| .sh _ _ _| .beq _ _ _ _| .nck _| .mx _ _ _=>true
 |_=>false
def aFt(P:Program)(f:FuncId):Bool:=
 match P.funcs[f]? with
 |some fn=>fn.name !="runtime.NumGoroutine"&&!fn.body.isNone
 |none=>false
def gJ(ops:List Oper):Option (Nat×Bool)->Option (Option (Nat×Bool))
 |none=>some none
 |some (j,want)=>match ops[j]? with
  |some o=>match o.dst with
   |some d=>some (some (d,want))
   |none=>none
  |none=>none
def aFl(P:Program)(ops:List Oper)(o:Oper):Option LOper:=
 match lD P o,gJ ops o.guard with
 |some lo,some g=>match lo with
  | .call f _=>if aFt P f then some ⟨o.dst,lo,g⟩else none
  |_=>some ⟨o.dst,lo,g⟩
 |_,_=>none
def bX(P:Program)(ops:List Oper):List Oper->Option (List LOper)
 |[]=>some []
 |o::os=>match aFl P ops o,bX P ops os with
  |some x,some xs=>some (x::xs)
  |_,_=>none
section
variable {P : Program} {Φ : Fz} {n : Nat} {β : Spots} {env : List AV} {H : Heap} {a : Act} {w : World}
theorem bUk {K:AV->Heap->Nat->Prop} {o:Oper} {lo:LOp} (hl:lD P o=some lo) (hc:lo.isCall=false) (he:Env Φ n β env a) (hH:RH Φ n β H w) (hB:Keep Φ w)
 (h:xop P env H n K lo):xT P o a Φ n β K w:=by
 unfold lD at hl;split at hl
 case h_1 x ho=>obtain⟨y,h1,rfl⟩:=w9.1 hl;exact(aZp (.inl ho) h1 he hH hB h).done hH hB
 case h_2 x ho=>obtain⟨y,h1,rfl⟩:=w9.1 hl;exact(aZp (.inr ho) h1 he hH hB h).done hH hB
 case h_3 c x y ho=>split at hl;{rename_i h1 h2 h3;cases hl;exact(bGr ho h1 h2 h3 he hH hB h).done hH hB};{cases hl}
 case h_4 e x ho=>obtain⟨y,h1,rfl⟩:=w9.1 hl;exact cEa ho h1 he hH hB h
 case h_5 e ho=>obtain⟨z,h1,rfl⟩:=w9.1 hl;exact bTh ho h1 hH hB h
 case h_6 t ps ho=>split at hl;{rename_i fs z l h1 h2;split at hl;{rename_i h4;obtain⟨qs,h5,rfl⟩:=w9.1 hl;exact(bPn ho h1 h2 h4 h5 he hH hB h).done hH hB};{cases hl}};{cases hl}
 case h_7 t m ps ho=>split at hl;{rename_i e h1;split at hl;{rename_i inf z h2 h3;split at hl;{rename_i h4;obtain⟨qs,h5,rfl⟩:=w9.1 hl;exact cDd ho h1 h2 h3 h4.1 h4.2.1 h4.2.2 h5 he hH hB h};{cases hl}};{cases hl}};{cases hl}
 case h_8 t x ho=>split at hl;{rename_i h1 h2 h3;cases hl;exact(bHk ho h1 h2 h3 he hH hB h).done hH hB};{cases hl}
 case h_9 t x y ho=>split at hl;{rename_i h1 h2 h3;cases hl;exact bUp ho h1 h2 h3 he hH hB h};{cases hl}
 case h_10 op t x y t' ho=>split at hl;{rename_i h1 h2 h3;split at hl;{cases hl;exact(aZk (left:=true) ho rfl h2 h3 he h).done hH hB};{cases hl;exact(aZk (left:=false) ho rfl h2 h3 he h).done hH hB};{cases hl;exact(bNr ho h2 h3 he hH hB h).done hH hB}};{rename_i fs x1 y1 h1 h2 h3;split at hl;{rename_i hp;split at hl;{cases hl;exact(aVk (ng:=false) ho h1 hp rfl h2 h3 he h).done hH hB};{cases hl;exact(aVk (ng:=true) ho h1 hp rfl h2 h3 he h).done hH hB};{cases hl}};{cases hl}};{rename_i h1 h2 h3;split at hl;{cases hl;exact(aNj (ng:=false) ho h1 rfl h2 h3 he hH hB h).done hH hB};{cases hl;exact(aNj (ng:=true) ho h1 rfl h2 h3 he hH hB h).done hH hB};{cases hl}};{cases hl}
 case h_11 op t x ho=>obtain⟨y,h1,rfl⟩:=w9.1 hl;exact(bWq ho h1 he hH hB h).done hH hB
 case h_12 t x y ho=>
  have key:∀{x y:Operand} {l:Nat},aI x=some (.t l)->aI y=some (.t l)->a.eval y=a.eval x:=by intro x y l h1 h2;cases x<;>simp[aI]at h1;cases y<;>simp[aI]at h2;rw[h1,h2]
  have low_int:∀{v:Value} {l:Int},dL v=some (.int .i64 l)->v= .int .i64 l:=by
   intro v l h1;cases v<;>try (simp[dL]at h1;done)
   case int k z=>simp only[dL]at h1;split at h1<;>simp_all
   case slice s m c=>cases s<;>cases m<;>cases c<;>simp[dL]at h1
   case pointer p=>cases p<;>simp[dL]at h1
  have key2:∀{x y:Operand} {l:Int},aI x=some (.c (.int .i64 l))->aI y=some (.c (.int .i64 l))->a.eval y=a.eval x:=(by intro x y l h1 h2;cases x<;>simp[aI]at h1;cases y<;>simp[aI]at h2;rw[low_int h1,low_int h2]);split at hl;{rename_i e l c h1 h2 h3;split at hl;{rename_i inf z h4 h5;split at hl;{rename_i h6;obtain⟨rfl,h7,h8⟩:=h6;cases hl;exact bWp ho h1 h4 h5 h7 h2 (key h2 h3) he hH hB h};{cases hl}};{cases hl}};{rename_i e l c h1 h2 h3;split at hl;{rename_i inf z h4 h5;split at hl;{rename_i h6;obtain⟨rfl,h7,h8⟩:=h6;cases hl;exact bWp ho h1 h4 h5 h7 h2 (key2 h2 h3) he hH hB h};{cases hl}};{cases hl}};{cases hl}
 case h_13 s x i ho=>split at hl;{rename_i fs y h1 h2;split at hl;{rename_i f h3;split at hl;{rename_i inf h4;split at hl;{cases hl};{rename_i h5;cases hl;exact(bHy ho h1 h3 h4 h5 h2 he hH hB h).done hH hB}};{cases hl}};{cases hl}};{cases hl}
 case h_14 s x i ho=>split at hl;{rename_i fs y h1 h2;split at hl;{rename_i f h3;split at hl;{rename_i ag inf h4 h5;cases hl;exact(bPq ho h1 h3 h4 h5 h2 he hH hB h).done hH hB};{cases hl}};{cases hl}};{cases hl}
 case h_15 t x i ho=>split at hl;{rename_i e y z h1 h2 h3;obtain⟨inf,h4,rfl⟩:=w9.1 hl;exact(bIz ho h1 h4 h2 h3 he hH hB h).done hH hB};{cases hl}
 case h_16 x i ho=>obtain⟨y,h1,rfl⟩:=w9.1 hl;exact(bNl ho h1 he hH hB h).done hH hB
 case h_17 x t ho=>split at hl;{rename_i e y h1 h2;cases hl;exact(bOe ho h1 h2 he hH hB h).done hH hB};{cases hl}
 case h_18 t x lo hi ho=>split at hl;{rename_i e x1 lo1 hi1 h1 h2 h3 h4;split at hl;{rename_i inf h5;split at hl;{rename_i h6;cases hl;exact(bQz ho h1 h5 h6 h2 h3 h4 he h).done hH hB};{cases hl}};{cases hl}};{cases hl}
 case h_19 src dst x ho=>split at hl;{rename_i k1 k2 x1 h1 h2 h3;cases hl;exact(bPx ho h1 h2 h3 he h).done hH hB};{cases hl}
 case h_20 x y t t2 ho=>split at hl;{rename_i e x1 y1 h1 h2 h3;split at hl;{rename_i inf z h4 h5;split at hl;{rename_i h6;obtain⟨rfl,h7,h8⟩:=h6;cases hl;exact cCg ho h1 h4 h5 h7 h8 h2 h3 he hH hB h};{cases hl}};{cases hl}};{cases hl}
 case h_21 x y t t2 ho=>split at hl;{rename_i e x1 y1 h1 h2 h3;split at hl;{rename_i inf h4;split at hl;{rename_i h5;cases hl;exact cDr ho h1 h4 h5 h2 h3 he hH hB h};{cases hl}};{cases hl}};{cases hl}
 case h_22 x y ats ho=>split at hl;{rename_i h1 h2;cases hl;exact(aZg (most:=true) ho h1 h2 he h).done hH hB};{cases hl}
 case h_23 x y ats ho=>split at hl;{rename_i h1 h2;cases hl;exact(aZg (most:=false) ho h1 h2 he h).done hH hB};{cases hl}
 case h_24 x ho=>obtain⟨y,h1,rfl⟩:=w9.1 hl;exact(bRg ho h1 he h).done hH hB
 case h_25 f xs ats ho=>obtain⟨y,h1,rfl⟩:=w9.1 hl;simp[LOp.isCall]at hc
 case h_26=>cases hl
theorem bEw {K:AV->Heap->Nat->Prop} {o:Oper} {lo:LOp} (hl:lD P o=some lo) (hc:lo.quiet=true) (he:Env Φ n β env a) (hH:RH Φ n β H w) (hB:Keep Φ w)
 (h:xop P env H n K lo):QDone P o a Φ n β H K w:=by
 unfold lD at hl;split at hl
 case h_1 x ho=>obtain⟨y,h1,rfl⟩:=w9.1 hl;exact(aZp (.inl ho) h1 he hH hB h)
 case h_2 x ho=>obtain⟨y,h1,rfl⟩:=w9.1 hl;exact(aZp (.inr ho) h1 he hH hB h)
 case h_3 c x y ho=>split at hl;{rename_i h1 h2 h3;cases hl;exact(bGr ho h1 h2 h3 he hH hB h)};{cases hl}
 case h_4 e x ho=>obtain⟨y,h1,rfl⟩:=w9.1 hl;simp[LOp.quiet]at hc
 case h_5 e ho=>obtain⟨z,h1,rfl⟩:=w9.1 hl;simp[LOp.quiet]at hc
 case h_6 t ps ho=>split at hl;{rename_i fs z l h1 h2;split at hl;{rename_i h4;obtain⟨qs,h5,rfl⟩:=w9.1 hl;exact(bPn ho h1 h2 h4 h5 he hH hB h)};{cases hl}};{cases hl}
 case h_7 t m ps ho=>split at hl;{rename_i e h1;split at hl;{rename_i inf z h2 h3;split at hl;{rename_i h4;obtain⟨qs,h5,rfl⟩:=w9.1 hl;simp[LOp.quiet]at hc};{cases hl}};{cases hl}};{cases hl}
 case h_8 t x ho=>split at hl;{rename_i h1 h2 h3;cases hl;exact(bHk ho h1 h2 h3 he hH hB h)};{cases hl}
 case h_9 t x y ho=>split at hl;{rename_i h1 h2 h3;cases hl;simp[LOp.quiet]at hc};{cases hl}
 case h_10 op t x y t' ho=>split at hl;{rename_i h1 h2 h3;split at hl;{cases hl;exact(aZk (left:=true) ho rfl h2 h3 he h)};{cases hl;exact(aZk (left:=false) ho rfl h2 h3 he h)};{cases hl;exact(bNr ho h2 h3 he hH hB h)}};{rename_i fs x1 y1 h1 h2 h3;split at hl;{rename_i hp;split at hl;{cases hl;exact(aVk (ng:=false) ho h1 hp rfl h2 h3 he h)};{cases hl;exact(aVk (ng:=true) ho h1 hp rfl h2 h3 he h)};{cases hl}};{cases hl}};{rename_i h1 h2 h3;split at hl;{cases hl;exact(aNj (ng:=false) ho h1 rfl h2 h3 he hH hB h)};{cases hl;exact(aNj (ng:=true) ho h1 rfl h2 h3 he hH hB h)};{cases hl}};{cases hl}
 case h_11 op t x ho=>obtain⟨y,h1,rfl⟩:=w9.1 hl;exact(bWq ho h1 he hH hB h)
 case h_12 t x y ho=>split at hl;{rename_i e l c h1 h2 h3;split at hl;{rename_i inf z h4 h5;split at hl;{rename_i h6;obtain⟨rfl,h7,h8⟩:=h6;cases hl;simp[LOp.quiet]at hc};{cases hl}};{cases hl}};{rename_i e l c h1 h2 h3;split at hl;{rename_i inf z h4 h5;split at hl;{rename_i h6;obtain⟨rfl,h7,h8⟩:=h6;cases hl;simp[LOp.quiet]at hc};{cases hl}};{cases hl}};{cases hl}
 case h_13 s x i ho=>split at hl;{rename_i fs y h1 h2;split at hl;{rename_i f h3;split at hl;{rename_i inf h4;split at hl;{cases hl};{rename_i h5;cases hl;exact(bHy ho h1 h3 h4 h5 h2 he hH hB h)}};{cases hl}};{cases hl}};{cases hl}
 case h_14 s x i ho=>split at hl;{rename_i fs y h1 h2;split at hl;{rename_i f h3;split at hl;{rename_i ag inf h4 h5;cases hl;exact(bPq ho h1 h3 h4 h5 h2 he hH hB h)};{cases hl}};{cases hl}};{cases hl}
 case h_15 t x i ho=>split at hl;{rename_i e y z h1 h2 h3;obtain⟨inf,h4,rfl⟩:=w9.1 hl;exact(bIz ho h1 h4 h2 h3 he hH hB h)};{cases hl}
 case h_16 x i ho=>obtain⟨y,h1,rfl⟩:=w9.1 hl;exact(bNl ho h1 he hH hB h)
 case h_17 x t ho=>split at hl;{rename_i e y h1 h2;cases hl;exact(bOe ho h1 h2 he hH hB h)};{cases hl}
 case h_18 t x lo hi ho=>split at hl;{rename_i e x1 lo1 hi1 h1 h2 h3 h4;split at hl;{rename_i inf h5;split at hl;{rename_i h6;cases hl;exact(bQz ho h1 h5 h6 h2 h3 h4 he h)};{cases hl}};{cases hl}};{cases hl}
 case h_19 src dst x ho=>split at hl;{rename_i k1 k2 x1 h1 h2 h3;cases hl;exact(bPx ho h1 h2 h3 he h)};{cases hl}
 case h_20 x y t t2 ho=>split at hl;{rename_i e x1 y1 h1 h2 h3;split at hl;{rename_i inf z h4 h5;split at hl;{rename_i h6;obtain⟨rfl,h7,h8⟩:=h6;cases hl;simp[LOp.quiet]at hc};{cases hl}};{cases hl}};{cases hl}
 case h_21 x y t t2 ho=>split at hl;{rename_i e x1 y1 h1 h2 h3;split at hl;{rename_i inf h4;split at hl;{rename_i h5;cases hl;simp[LOp.quiet]at hc};{cases hl}};{cases hl}};{cases hl}
 case h_22 x y ats ho=>split at hl;{rename_i h1 h2;cases hl;exact(aZg (most:=true) ho h1 h2 he h)};{cases hl}
 case h_23 x y ats ho=>split at hl;{rename_i h1 h2;cases hl;exact(aZg (most:=false) ho h1 h2 he h)};{cases hl}
 case h_24 x ho=>obtain⟨y,h1,rfl⟩:=w9.1 hl;exact(bRg ho h1 he h)
 case h_25 f xs ats ho=>obtain⟨y,h1,rfl⟩:=w9.1 hl;simp[LOp.quiet]at hc
 case h_26=>cases hl
theorem aYi{o:Oper}{f:FuncId}{ys:List Opd}(hl:lD P o=some (.call f ys)):∃xs ats,o.op= .call {callee:= .value (.func f),args:=⟨xs⟩,argTypes:=ats}/\aCe xs=some ys:=by
 unfold lD at hl;split at hl
 case h_25 f' xs ats ho=>obtain⟨y,h1,h2⟩:=w9.1 hl;cases h2;exact⟨xs,ats,ho,h1⟩
 case h_26=>cases hl
 all_goals
  try (obtain⟨y,h1,h2⟩:=w9.1 hl;cases h2;done)
  try (repeat' (split at hl))<;>first|(cases hl;done)|(obtain⟨y,h1,h2⟩:=w9.1 hl;cases h2;done)
theorem bDd{o:Oper}{f:FuncId}{xs:List Operand}{ats:Array TypeId}(ho:o.op= .call {callee:= .value (.func f),args:=⟨xs⟩,argTypes:=ats})(hf:aFt P f=true):
 (execOp a.eval o).run P w= .ok (.enter f (xs.map a.eval).toArray) w:=by
 unfold aFt at hf;split at hf
 · rename_i fn hfn
   simp only[x5,bne_iff_ne,ne_eq,u0]at hf;have hb:¬fn.body=none:=λe=>by rw[e]at hf;simp at hf
   simp[execOp,ho,resolve,Deferred.ofValue,Act.eval,invoke,callFunc,hfn,hf.1,hb]
 {cases hf}
end
mutual
def AV.clean:AV->Bool
 | .nil| .emp| .bool _| .int _ _| .und=>true
 | .bor _ cs=>aS cs
 | .bptr cs _=>aS cs
 | .agg vs=>aS vs
 | .tup vs=>aS vs
 |_=>false
def aS:List AV->Bool
 |[]=>true
 |v::vs=>v.clean&&aS vs
end
mutual
def AV.noRef:AV->Bool
 | .nil| .emp| .bool _| .int _ _| .und=>true
 | .bor _ cs=>aG cs
 | .own _ _ _ cs=>aG cs
 | .agg vs=>aG vs
 | .tup vs=>aG vs
 |_=>false
def aG:List AV->Bool
 |[]=>true
 |v::vs=>v.noRef&&aG vs
end
mutual
def AV.noBor:AV->Bool
 | .nil| .emp| .bool _| .int _ _| .und=>true
 | .sref _ _ _ _ _=>true
 | .ptr _ _ _=>true
 | .own _ _ _ cs=>aN cs
 | .agg vs=>aN vs
 | .tup vs=>aN vs
 |_=>false
def aN:List AV->Bool
 |[]=>true
 |v::vs=>v.noBor&&aN vs
end
mutual
inductive Clo (H : Heap) : AV → AV → Prop
 |nil:Clo H .nil .nil
 |nil0:Clo H .nil (.bor 0 [])
 |emp0:Clo H .emp (.bor 0 [])
 |bool b:Clo H (.bool b) (.bool b)
 |int (k z):Clo H (.int k z) (.int k z)
 |bor (m m' cs cs'):m=m'->Clos H cs cs'->Clo H (.bor m cs) (.bor m' cs')
 |clean x:x.clean=true->Clo H x x
 |sref (r π o m m' sz t cs):H.get r π=some t->o+m*sz<=t.cs.length->m=m'->Clos H (((refer r π 0 t.cs).drop o).take (m*sz)) cs->Clo H (.sref r π o m sz) (.bor m' cs)
 |agg (vs us):Clos H vs us->Clo H (.agg vs) (.agg us)
inductive Clos (H : Heap) : List AV → List AV → Prop
 |nil:Clos H [] []
 |cons (v u vs us):Clo H v u->Clos H vs us->Clos H (v::vs) (u::us)
end
def Cloz(H:Heap):List AV->List AV->Prop
 |[],ys=>ys=[]
 |x::xs,ys=>∃y ys',ys=y::ys'/\Clo H x y/\Cloz H xs ys'
section
variable {Φ Φ' : Fz} {n n' : Nat} {β β' : Spots} {H : Heap} {w : World}
mutual
theorem RV.clean(hΦ:Φ.tle Φ'):∀{x:AV} {v:Value},x.clean=true->RV Φ n β x v->RV Φ' n' β' x v
 | .unk,_,h,_=>by simp[AV.clean]at h
 | .und,_,_,h=>by simpa only[RV]using h
 | .nil,_,_,h=>by simpa only[RV]using h
 | .emp,_,_,h=>by simpa only[RV]using h
 | .bool _,_,_,h=>by simpa only[RV]using h
 | .int _ _,_,_,h=>by simpa only[RV]using h
 | .ptr _ _ _,_,h,_=>by simp[AV.clean]at h
 | .sref _ _ _ _ _,_,h,_=>by simp[AV.clean]at h
 | .own _ _ _ _,_,h,_=>by simp[AV.clean]at h
 | .bor m cs,_,hc,h=>by simp only[AV.clean]at hc;simp only[RV]at h ⊢;obtain⟨s,cap,vs,h1,h2,h3,h4,h5⟩:=h;exact⟨s,cap,vs,h1,h2,h3,h4.le hΦ,RVs.clean hΦ hc h5⟩
 | .bptr cs o,_,hc,h=>by simp only[AV.clean]at hc;simp only[RV]at h ⊢;obtain⟨s,p,vs,h1,h2,h3,h4⟩:=h;exact⟨s,p,vs,h1,h2.le hΦ,RVs.clean hΦ hc h3,h4⟩
 | .agg vs,_,hc,h=>by simp only[AV.clean]at hc;simp only[RV]at h ⊢;obtain⟨arr,h1,h2⟩:=h;exact⟨arr,h1,RVs.clean hΦ hc h2⟩
 | .tup vs,_,hc,h=>by simp only[AV.clean]at hc;simp only[RV]at h ⊢;obtain⟨arr,h1,h2⟩:=h;exact⟨arr,h1,RVt.clean hΦ hc h2⟩
theorem RVs.clean(hΦ:Φ.tle Φ'):∀{xs:List AV} {vs:List Value},aS xs=true->RVs Φ n β xs vs->RVs Φ' n' β' xs vs
 |[],_,_,h=>by simpa only[RVs]using h
 |_::_,_,hc,h=>by simp only[aS,x5]at hc;simp only[RVs]at h ⊢;obtain⟨v,vs',e,o,h1,h2⟩:=h;exact⟨v,vs',e,o,RV.clean hΦ hc.1 h1,RVs.clean hΦ hc.2 h2⟩
theorem RVt.clean(hΦ:Φ.tle Φ'):∀{xs:List AV} {vs:List Value},aS xs=true->RVt Φ n β xs vs->RVt Φ' n' β' xs vs
 |[],_,_,h=>by simpa only[RVt]using h
 |_::_,_,hc,h=>by simp only[aS,x5]at hc;simp only[RVt]at h ⊢;obtain⟨v,vs',e,h1,h2⟩:=h;exact⟨v,vs',e,RV.clean hΦ hc.1 h1,RVt.clean hΦ hc.2 h2⟩
end
def Fz.all(Φ:Fz)(w:World)(f:Bool):Fz:=λb=>match Φ b with
 |some x=>some x
 |none=>(w.heap[b]?).map λo=>(f,o)
theorem Fz.le_all{f:Bool}:Φ.le (Φ.all w f):=λb x h=>by simp[Fz.all,h]
theorem Keep.all{f:Bool}(h:Keep Φ w):Keep (Φ.all w f) w:=λb x hb=>by unfold Fz.all at hb;split at hb;{rename_i y hy;cases hb;exact h b _ hy};{obtain⟨o,ho,rfl⟩:=w9.1 hb;exact ho}
theorem bYs{r:Nat}{π:List Nat}{t:Root}(hH:RH Φ n β H w)(hr:H.get r π=some t)(hx:(β r π).ex=true){o m:Nat}(hl:o+m<=t.cs.length):
 ∃vs,RowOf (Φ.all w true) (some ⟨(β r π).b,(β r π).st+o,none⟩) vs/\RVs Φ n β (((refer r π 0 t.cs).drop o).take m) vs:=by
 obtain⟨h2,cur,h3,h4,h5,h6⟩:=hH.own hr hx;refine⟨(((cur.toList.drop (β r π).st).take t.cs.length).drop o).take m,.inr ⟨_,_,cur,t.e,(0,0),rfl,by simp[Fz.all,h2,h3],λi hi=>?_⟩,(h6.drop o).take m⟩;simp only[m7,p8,Array.length_toList]at hi;have e:((((cur.toList.drop (β r π).st).take t.cs.length).drop o).take m).getD i undef=cur[(β r π).st+o+i]'(by omega):=(by simp[x8,qQJ,t9,show i<m by omega,show o+i<t.cs.length by omega,<-m4,show(β r π).st+o+i<cur.size by omega]);rw[e];simp[show(β r π).st+o+i<cur.size by omega]
mutual
theorem Clo.sound(hH:RH Φ n β H w):∀{x y:AV} {v:Value},Clo H x y->RV Φ n β x v->RV (Φ.all w true) n' β' y v
 |_,_,_,.nil,h=>by simpa only[RV]using h
 |_,_,_,.nil0,h=>by simp only[RV]at h ⊢;exact⟨none,0,[],h,k9 _,m9 _,.inl rfl,by simp[RVs]⟩
 |_,_,_,.emp0,h=>by simp only[RV]at h ⊢;obtain⟨s,rfl⟩:=h;exact⟨s,0,[],rfl,k9 _,m9 _,.inl rfl,by simp[RVs]⟩
 |_,_,_,.bool _,h=>by simpa only[RV]using h
 |_,_,_,.int _ _,h=>by simpa only[RV]using h
 |_,_,_,.bor m m' cs cs' hm hc,h=>by subst hm;simp only[RV]at h ⊢;obtain⟨s,cap,vs,h1,h2,h3,h4,h5⟩:=h;exact⟨s,cap,vs,h1,h2,h3,h4.le Fz.le_all.tle,Clos.sound hH hc h5⟩
 |_,_,_,.clean x hc,h=>RV.clean Fz.le_all.tle hc h
 |_,_,_,.sref r π o m m' sz t cs hr hl hm hc,h=>by
  subst hm;simp only[RV]at h ⊢;obtain⟨hrn,s,cap,h1,h2,h3,h4⟩:=h;rcases h4 with⟨rfl,rfl,_⟩|⟨h4,rfl,h5⟩
  · have e:cs=[]:=by
     rw[Nat.zero_mul,List.take_zero]at hc;cases hc;rfl
    subst e;exact⟨s,0,[],h1,h2,h3,.inl rfl,by simp[RVs]⟩
  {obtain⟨vs,g1,g2⟩:=bYs hH hr h4 hl;exact⟨_,cap,vs,h1,h2,h3,g1,Clos.sound hH hc g2⟩}
 |_,_,_,.agg vs us hc,h=>by simp only[RV]at h ⊢;obtain⟨arr,h1,h2⟩:=h;exact⟨arr,h1,Clos.sound hH hc h2⟩
theorem Clos.sound(hH:RH Φ n β H w):∀{xs ys:List AV} {vs:List Value},Clos H xs ys->RVs Φ n β xs vs->RVs (Φ.all w true) n' β' ys vs
 |_,_,_,.nil,h=>by simpa only[RVs]using h
 |_,_,_,.cons v u vs us h1 h2,h=>by simp only[RVs]at h ⊢;obtain⟨v',vs',e,o,g1,g2⟩:=h;exact⟨v',vs',e,o,Clo.sound hH h1 g1,Clos.sound hH h2 g2⟩
end
theorem Cloz.sound(hH:RH Φ n β H w):∀{xs ys:List AV} {vs:List Value},Cloz H xs ys->RVt Φ n β xs vs->RVt (Φ.all w true) n' β' ys vs
 |[],ys,vs,h,k=>by simp only[Cloz]at h;subst h;simpa only[RVt]using k
 |x::xs,ys,vs,h,k=>by simp only[Cloz]at h;obtain⟨y,ys',rfl,h1,h2⟩:=h;simp only[RVt]at k ⊢;obtain⟨v,vs',e,k1,k2⟩:=k;exact⟨v,vs',e,h1.sound hH k1,h2.sound hH k2⟩
end
def eG(n:Nat):AV->AV×Heap×Nat
 | .own e sz m cs=>(.sref n [] 0 m sz,[(n,some ⟨e,cs⟩)],n+1)
 |x=>(x,[],n)
def eV(n:Nat):List AV->List AV×Heap×Nat
 |[]=>([],[],n)
 |x::xs=>((eG n x).1::(eV (eG n x).2.2 xs).1,(eV (eG n x).2.2 xs).2.1++(eG n x).2.1,(eV (eG n x).2.2 xs).2.2)
def eL(n:Nat):AV->AV×Heap×Nat
 | .agg vs=>(.agg (eV n vs).1,(eV n vs).2.1,(eV n vs).2.2)
 |x=>eG n x
def dW(n:Nat):List AV->List AV×Heap×Nat
 |[]=>([],[],n)
 |x::xs=>((eL n x).1::(dW (eL n x).2.2 xs).1,(dW (eL n x).2.2 xs).2.1++(eL n x).2.1,(dW (eL n x).2.2 xs).2.2)
def bM(n:Nat):AV->AV×Heap×Nat
 | .tup vs=>(.tup (dW n vs).1,(dW n vs).2.1,(dW n vs).2.2)
 |x=>eL n x
def Fn(P:Program)(f:FuncId)(args:List AV)(r:AV):Prop:=Inl P f args [] 0 (bM 0 r).1 (bM 0 r).2.1 (bM 0 r).2.2
mutual
def AV.up(d:Nat):AV->AV
 | .ptr r π o=> .ptr (r+d) π o
 | .sref r π o m sz=> .sref (r+d) π o m sz
 | .bor m cs=> .bor m (ups d cs)
 | .bptr cs o=> .bptr (ups d cs) o
 | .own e sz m cs=> .own e sz m (ups d cs)
 | .agg vs=> .agg (ups d vs)
 | .tup vs=> .tup (ups d vs)
 | .unk=> .unk
 | .und=> .und
 | .nil=> .nil
 | .emp=> .emp
 | .bool b=> .bool b
 | .int k z=> .int k z
def ups(d:Nat):List AV->List AV
 |[]=>[]
 |v::vs=>v.up d::ups d vs
end
mutual
theorem bCt{d:Nat}:∀{x:AV},x.noRef=true->x.up d=x
 | .unk,_=>rfl
 | .und,_=>rfl
 | .nil,_=>rfl
 | .emp,_=>rfl
 | .bool _,_=>rfl
 | .int _ _,_=>rfl
 | .ptr _ _ _,h=>by simp[AV.noRef]at h
 | .sref _ _ _ _ _,h=>by simp[AV.noRef]at h
 | .bptr _ _,h=>by simp[AV.noRef]at h
 | .bor m cs,h=>by simp only[AV.up];rw[vT (by simpa[AV.noRef]using h)]
 | .own _ _ m cs,h=>by simp only[AV.up];rw[vT (by simpa[AV.noRef]using h)]
 | .agg vs,h=>by simp only[AV.up];rw[vT (by simpa[AV.noRef]using h)]
 | .tup vs,h=>by simp only[AV.up];rw[vT (by simpa[AV.noRef]using h)]
theorem vT{d:Nat}:∀{xs:List AV},aG xs=true->ups d xs=xs
 |[],_=>rfl
 |_::_,h=>by simp only[aG,x5]at h;simp only[ups,bCt h.1,vT h.2]
end
def eZ(d:Nat):Heap->Heap
 |[]=>[]
 |(r,t)::H=>(r+d,t.map λt=>⟨t.e,ups d t.cs⟩)::eZ d H
theorem aAa{d:Nat}:∀{A B:Heap},eZ d (A++B)=eZ d A++eZ d B
 |[],_=>rfl
 |(r,t)::A,B=>by simp only[n7,eZ,aAa (A:=A)]
theorem bDc{d n:Nat}{x:AV}(h:x.noRef=true):((eG n x).1.up d=(eG (n+d) x).1)/\eZ d (eG n x).2.1=(eG (n+d) x).2.1/\(eG n x).2.2+d=(eG (n+d) x).2.2:=by
 cases x
 case own e sz m cs=>have:ups d cs=cs:=vT (by simpa[AV.noRef]using h);simp only[eG,AV.up,eZ,Option.map_some,this];exact⟨trivial,trivial,by omega⟩
 all_goals exact⟨bCt h,rfl,rfl⟩
theorem bEk{d:Nat}:∀{n:Nat} {xs:List AV},aG xs=true->ups d (eV n xs).1=(eV (n+d) xs).1/\eZ d (eV n xs).2.1=(eV (n+d) xs).2.1/\(eV n xs).2.2+d=(eV (n+d) xs).2.2
 |_,[],_=>⟨rfl,rfl,rfl⟩
 |n,x::xs,h=>by simp only[aG,x5]at h;obtain⟨a1,a2,a3⟩:=bDc (d:=d) (n:=n) h.1;obtain⟨b1,b2,b3⟩:=bEk (d:=d) (n:=(eG n x).2.2) h.2;simp only[eV,ups,aAa,a1,a2,b1,b2,b3,a3,and_self]
theorem bEj{d n:Nat}{x:AV}(h:x.noRef=true):((eL n x).1.up d=(eL (n+d) x).1)/\eZ d (eL n x).2.1=(eL (n+d) x).2.1/\(eL n x).2.2+d=(eL (n+d) x).2.2:=by
 cases x
 case agg vs=>obtain⟨b1,b2,b3⟩:=bEk (d:=d) (n:=n) (xs:=vs) (by simpa[AV.noRef]using h);simp only[eL,AV.up,b1,b2,b3,and_self]
 all_goals exact bDc h
theorem bFg{d:Nat}:∀{n:Nat} {xs:List AV},aG xs=true->ups d (dW n xs).1=(dW (n+d) xs).1/\eZ d (dW n xs).2.1=(dW (n+d) xs).2.1/\(dW n xs).2.2+d=(dW (n+d) xs).2.2
 |_,[],_=>⟨rfl,rfl,rfl⟩
 |n,x::xs,h=>by simp only[aG,x5]at h;obtain⟨a1,a2,a3⟩:=bEj (d:=d) (n:=n) h.1;obtain⟨b1,b2,b3⟩:=bFg (d:=d) (n:=(eL n x).2.2) h.2;simp only[dW,ups,aAa,a1,a2,b1,b2,b3,a3,and_self]
theorem bBm{d n:Nat}{x:AV}(h:x.noRef=true):((bM n x).1.up d=(bM (n+d) x).1)/\eZ d (bM n x).2.1=(bM (n+d) x).2.1/\(bM n x).2.2+d=(bM (n+d) x).2.2:=by
 cases x
 case tup vs=>obtain⟨b1,b2,b3⟩:=bFg (d:=d) (n:=n) (xs:=vs) (by simpa[AV.noRef]using h);simp only[bM,AV.up,b1,b2,b3,and_self]
 all_goals exact bEj h
section
variable {Φ Φ' : Fz} {n m : Nat} {β β' : Spots} {H : Heap} {w : World}
mutual
theorem RV.up(hΦ:Φ.tle Φ')(hb:∀i,i<m->β' (i+n)=β i):∀{x:AV} {v:Value},RV Φ m β x v->RV Φ' (n+m) β' (x.up n) v
 | .unk,_,_=>by simp[RV,AV.up]
 | .und,_,h=>by simpa only[RV,AV.up]using h
 | .nil,_,h=>by simpa only[RV,AV.up]using h
 | .emp,_,h=>by simpa only[RV,AV.up]using h
 | .bool _,_,h=>by simpa only[RV,AV.up]using h
 | .int _ _,_,h=>by simpa only[RV,AV.up]using h
 | .own _ _ _ _,_,h=>by simp only[RV]at h
 | .ptr r π o,_,h=>by simp only[RV,AV.up]at h ⊢;rw[hb r h.1];exact⟨by omega,h.2⟩
 | .sref r π o k sz,_,h=>by simp only[RV,AV.up]at h ⊢;rw[hb r h.1];exact⟨by omega,h.2⟩
 | .bor k cs,_,h=>by simp only[RV,AV.up]at h ⊢;obtain⟨s,cap,vs,h1,h2,h3,h4,h5⟩:=h;exact⟨s,cap,vs,h1,h2,h3,h4.le hΦ,RVs.up hΦ hb h5⟩
 | .bptr cs o,_,h=>by simp only[RV,AV.up]at h ⊢;obtain⟨s,p,vs,h1,h2,h3,h4⟩:=h;exact⟨s,p,vs,h1,h2.le hΦ,RVs.up hΦ hb h3,h4⟩
 | .agg vs,_,h=>by simp only[RV,AV.up]at h ⊢;obtain⟨arr,h1,h2⟩:=h;exact⟨arr,h1,RVs.up hΦ hb h2⟩
 | .tup vs,_,h=>by simp only[RV,AV.up]at h ⊢;obtain⟨arr,h1,h2⟩:=h;exact⟨arr,h1,RVt.up hΦ hb h2⟩
theorem RVs.up(hΦ:Φ.tle Φ')(hb:∀i,i<m->β' (i+n)=β i):∀{xs:List AV} {vs:List Value},RVs Φ m β xs vs->RVs Φ' (n+m) β' (ups n xs) vs
 |[],_,h=>by simpa only[RVs,ups]using h
 |_::_,_,h=>by simp only[RVs,ups]at h ⊢;obtain⟨v,vs',e,o,h1,h2⟩:=h;exact⟨v,vs',e,o,RV.up hΦ hb h1,RVs.up hΦ hb h2⟩
theorem RVt.up(hΦ:Φ.tle Φ')(hb:∀i,i<m->β' (i+n)=β i):∀{xs:List AV} {vs:List Value},RVt Φ m β xs vs->RVt Φ' (n+m) β' (ups n xs) vs
 |[],_,h=>by simpa only[RVt,ups]using h
 |_::_,_,h=>by simp only[RVt,ups]at h ⊢;obtain⟨v,vs',e,h1,h2⟩:=h;exact⟨v,vs',e,RV.up hΦ hb h1,RVt.up hΦ hb h2⟩
end
mutual
theorem RV.noBor:∀{x:AV} {v:Value},x.noBor=true->RV Φ m β x v->RV Φ' m β x v
 | .unk,_,h,_=>by simp[AV.noBor]at h
 | .und,_,_,h=>by simpa only[RV]using h
 | .nil,_,_,h=>by simpa only[RV]using h
 | .emp,_,_,h=>by simpa only[RV]using h
 | .bool _,_,_,h=>by simpa only[RV]using h
 | .int _ _,_,_,h=>by simpa only[RV]using h
 | .own _ _ _ _,_,_,h=>by simp only[RV]at h
 | .ptr r π o,_,_,h=>by simpa only[RV]using h
 | .sref r π o k sz,_,_,h=>by simpa only[RV]using h
 | .bor k cs,_,h,_=>by simp[AV.noBor]at h
 | .bptr cs o,_,h,_=>by simp[AV.noBor]at h
 | .agg vs,_,hc,h=>by simp only[AV.noBor]at hc;simp only[RV]at h ⊢;obtain⟨arr,h1,h2⟩:=h;exact⟨arr,h1,RVs.noBor hc h2⟩
 | .tup vs,_,hc,h=>by simp only[AV.noBor]at hc;simp only[RV]at h ⊢;obtain⟨arr,h1,h2⟩:=h;exact⟨arr,h1,RVt.noBor hc h2⟩
theorem RVs.noBor:∀{xs:List AV} {vs:List Value},aN xs=true->RVs Φ m β xs vs->RVs Φ' m β xs vs
 |[],_,_,h=>by simpa only[RVs]using h
 |_::_,_,hc,h=>by simp only[aN,x5]at hc;simp only[RVs]at h ⊢;obtain⟨v,vs',e,o,h1,h2⟩:=h;exact⟨v,vs',e,o,RV.noBor hc.1 h1,RVs.noBor hc.2 h2⟩
theorem RVt.noBor:∀{xs:List AV} {vs:List Value},aN xs=true->RVt Φ m β xs vs->RVt Φ' m β xs vs
 |[],_,_,h=>by simpa only[RVt]using h
 |_::_,_,hc,h=>by simp only[aN,x5]at hc;simp only[RVt]at h ⊢;obtain⟨v,vs',e,h1,h2⟩:=h;exact⟨v,vs',e,RV.noBor hc.1 h1,RVt.noBor hc.2 h2⟩
end
theorem aHs(d:Nat):∀l:List AV,(ups d l).length=l.length
 |[]=>rfl
 |_::l=>by simp[ups,aHs d l]
theorem bCd(d:Nat):∀(l:List AV) (i:Nat),(ups d l).getD i .unk=(l.getD i .unk).up d
 |[],i=>by simp[ups,AV.up]
 |x::l,0=>by simp[ups]
 |x::l,i+1=>by simp only[ups,List.getD_cons_succ];exact bCd d l i
theorem cFh{d r i:Nat}{π:List Nat}{x:AV}:(x.up d).at (r+d) π i=(x.at r π i).up d:=by cases x<;>rfl
theorem bEq{d r:Nat}{π:List Nat}:∀{k:Nat} {cs:List AV},refer (r+d) π k (ups d cs)=ups d (refer r π k cs)
 |_,[]=>rfl
 |k,c::cs=>by simp only[ups,refer,cFh,bEq]
theorem bXy{d:Nat}{x:AV}:(x.up d).node=x.node.map λt=>⟨t.e,ups d t.cs⟩:=by cases x<;>rfl
theorem lI{A B:Heap}{r:Nat}(h:A.get1 r=B.get1 r):∀π,A.get r π=B.get r π
 |[]=>h
 |i::π=>by simp only[Heap.get];rw[lI h π]
theorem bIk{d:Nat}:∀{A:Heap} {r:Nat},(eZ d A).get1 (r+d)=(A.get1 r).map λt=>⟨t.e,ups d t.cs⟩
 |[],_=>rfl
 |(k,t)::A,r=>by simp only[eZ,Heap.get1];by_cases h:k=r;{subst h;simp};{rw[if_neg (by omega),if_neg h];exact bIk}
theorem bRf{d:Nat}{A:Heap}{r:Nat}:∀{π:List Nat},(eZ d A).get (r+d) π=(A.get r π).map λt=>⟨t.e,ups d t.cs⟩
 |[]=>bIk
 |i::π=>by simp only[Heap.get];rw[bRf (π:=π)];(cases A.get r π with|none=>rfl|some t=>simp only[Option.map_some,bCd,bXy])
def Heap.has:Heap->Nat->Bool
 |[],_=>false
 |(k,_)::A,r=>k==r||Heap.has A r
theorem bHo{d:Nat}:∀{A:Heap} {r:Nat},r<d->(eZ d A).has r=false
 |[],_,_=>rfl
 |(k,t)::A,r,h=>by simp only[eZ,Heap.has,bHo (A:=A) h,Bool.or_false,beq_eq_false_iff_ne];omega
theorem iX:∀{A B:Heap} {r:Nat},(A++B).get1 r=if A.has r then A.get1 r else B.get1 r
 |[],B,r=>by simp[Heap.has]
 |(k,t)::A,B,r=>by simp only[n7,Heap.get1,Heap.has];by_cases h:k=r;{simp[h]};{have hb:(k==r)=false:=(by simpa using h);have ih:=iX (A:=A) (B:=B) (r:=r);simp only[h,if_false,hb,Bool.false_or];exact ih}
theorem RH.join {Hr:Heap} {Φ1:Fz} {w':World} (hH:RH Φ n β H w) (hr:RH Φ1 m β' Hr w') (hsep:∀r π t,H.get r π=some t->(β r π).ex=true->(Φ1 (β r π).b).isSome=true/\w'.heap[(β r π).b]? =w.heap[(β r π).b]? /\Φ' (β r π).b=none)
 (hle:Φ.tle Φ') (h1:∀xs vs,RVs Φ1 m β' xs vs->(∃r π t,Hr.get r π=some t/\xs=refer r π 0 t.cs)->RVs Φ' m β' xs vs) (hn1:∀b,Φ1 b=none->Φ' b=none):
 RH Φ' (n+m) (λi=>if i<n then β i else β' (i-n)) (eZ n Hr++H) w':=by
 generalize hβ:(λi=>if i<n then β i else β' (i-n))=βj;have hlow:∀i,i<n->βj i=β i:=λi hi=>by rw[<-hβ];simp[hi]
 have hup:∀i,i<m->βj (i+n)=β' i:=λi _=>by rw[<-hβ];simp[show¬i+n<n by omega]
 have hcases:∀r π t,Heap.get (eZ n Hr++H) r π=some t->(∃r0 t0,r=r0+n/\Hr.get r0 π=some t0/\t=⟨t0.e,ups n t0.cs⟩)\/(r<n/\H.get r π=some t):=(by intro r π t h;by_cases hh:(eZ n Hr).has r=true;{have e:(eZ n Hr++H).get r π=(eZ n Hr).get r π:=lI (by rw[iX,if_pos hh]) π;rw[e]at h;by_cases hlt:r<n;{rw[bHo hlt]at hh;cases hh};{obtain⟨r0,rfl⟩:∃r0,r=r0+n:=⟨r-n,by omega⟩;rw[bRf]at h;obtain⟨t0,ht0,rfl⟩:=w9.1 h;exact .inl ⟨r0,t0,rfl,ht0,rfl⟩}};{have e:(eZ n Hr++H).get r π=H.get r π:=lI (by rw[iX,if_neg hh]) π;rw[e]at h;exact .inr ⟨(hH.root r π t h).1,h⟩});refine⟨λr π t h=>?_,λr π r' π' h1' h2' hx hx' he=>?_⟩;{rcases hcases r π t h with⟨r0,t0,rfl,ht0,rfl⟩|⟨hlt,h⟩;{obtain⟨g1,g2⟩:=hr.root _ _ _ ht0;refine⟨by omega,?_⟩;unfold NodeIs at g2 ⊢;rw[hup r0 g1];refine g2.imp (λ⟨k1,k2⟩=>⟨k1,by simp[k2,ups]⟩) λ⟨k1,k2,cur,k3,k4,k5,k6⟩=>⟨k1,hn1 _ k2,cur,k3,k4,by simpa[aHs]using k5,?_⟩;simp only[aHs];rw[bEq];exact RVs.up (λ_ _ h=>h) hup (h1 _ _ k6 ⟨r0,π,t0,ht0,rfl⟩)};{obtain⟨g1,g2⟩:=hH.root _ _ _ h;refine⟨by omega,?_⟩;unfold NodeIs at g2 ⊢;rw[hlow r hlt];refine g2.imp id λ⟨k1,k2,cur,k3,k4,k5,k6⟩=>⟨k1,(hsep r π t h k1).2.2,cur,by rw[(hsep r π t h k1).2.1];exact k3,k4,k5,k6.moreT hle (by omega) hlow⟩}};{obtain⟨t,ht⟩:=y3.1 h1';obtain⟨t',ht'⟩:=y3.1 h2';rcases hcases r π t ht with⟨r0,t0,rfl,ht0,rfl⟩|⟨hlt,hu⟩<;>rcases hcases r' π' t' ht' with⟨r0',t0',rfl,ht0',rfl⟩|⟨hlt',hu'⟩;{have g1:=(hr.root _ _ _ ht0).1;have g1':=(hr.root _ _ _ ht0').1;rw[hup r0 g1]at hx he;rw[hup r0' g1']at hx' he;obtain⟨rfl,rfl⟩:=hr.apart _ _ _ _ (by simp[ht0]) (by simp[ht0']) hx hx' he;exact⟨rfl,rfl⟩};{have g1:=(hr.root _ _ _ ht0).1;rw[hup r0 g1]at hx he;rw[hlow r' hlt']at hx' he;have h3:=(hr.own ht0 hx).1;have h4:=(hsep _ _ _ hu' hx').1;rw[he]at h3;rw[h3]at h4;cases h4};{have g1:=(hr.root _ _ _ ht0').1;rw[hup r0' g1]at hx' he;rw[hlow r hlt]at hx he;have h3:=(hr.own ht0' hx').1;have h4:=(hsep _ _ _ hu hx).1;rw[<-he]at h3;rw[h3]at h4;cases h4};{rw[hlow r hlt]at hx he;rw[hlow r' hlt']at hx' he;exact hH.apart _ _ _ _ (by simp[hu]) (by simp[hu']) hx hx' he}}
end
section
variable {P : Program} {n : Nat} {H : Heap}
theorem RH.empty{Φ:Fz}{n:Nat}{β:Spots}{w:World}:RH Φ n β [] w:=by
 have:∀r π,Heap.get [] r π=none:=λr π=>by have h:Heap.get [] r []=none:=rfl;simpa using eO h π
 refine⟨λr π t h=>?_,λr π r' π' h=>?_⟩;{rw[this]at h;cases h};{rw[this]at h;cases h}
theorem aOm:∀{xs:List AV},aN xs=true->∀i,i<xs.length->(xs.getD i .unk).noBor=true
 |[],_,i,hi=>by simp at hi
 |x::xs,h,0,_=>by simp only[aN,x5]at h;exact h.1
 |x::xs,h,i+1,hi=>by simp only[aN,x5]at h;simpa using aOm h.2 i (by simpa using hi)
theorem aKb{r:Nat}{π:List Nat}:∀{k:Nat} {cs:List AV},aN cs=true->aN (refer r π k cs)=true
 |_,[],_=>rfl
 |k,c::cs,h=>by simp only[aN,x5]at h;simp only[refer,aN,x5];refine⟨?_,aKb h.2⟩;cases c<;>first|exact h.1|rfl
def jN:Heap->Bool
 |[]=>true
 |(_,none)::A=>jN A
 |(_,some t)::A=>aN t.cs&&jN A
theorem aOo:∀{A:Heap} {r:Nat} {t:Root},jN A=true->A.get1 r=some t->aN t.cs=true
 |[],_,_,_,h=>by simp[Heap.get1]at h
 |(k,t')::A,r,t,ho,h=>by simp only[Heap.get1]at h;split at h;{subst h;simp only[jN,x5]at ho;exact ho.1};{exact aOo (by cases t'<;>simp_all [jN]) h}
theorem aTu{A:Heap}{r:Nat}(hA:jN A=true):∀{π:List Nat} {t:Root},A.get r π=some t->aN t.cs=true
 |[],t,h=>aOo hA h
 |i::π,t,h=>by simp only[Heap.get]at h;split at h;{rename_i tp htp;have h1:=aTu hA htp;cases hc:tp.cs.getD i .unk<;>rw[hc]at h<;>simp only[AV.node,w7.injEq,reduceCtorEq]at h;subst h;have:=aOm h1 i (aGc hc);rw[hc]at this;simpa[AV.noBor]using this};{cases h}
theorem uM:∀{A B:Heap},jN A=true->jN B=true->jN (A++B)=true
 |[],_,_,h=>h
 |(k,none)::A,B,h,h2=>by simp only[n7,jN]at h ⊢;exact uM h h2
 |(k,some t)::A,B,h,h2=>by simp only[n7,jN,x5]at h ⊢;exact⟨h.1,uM h.2 h2⟩
theorem aOn{n:Nat}{x:AV}(h:x.noBor=true):(eG n x).1.noBor=true/\jN (eG n x).2.1=true:=by
 cases x
 case own e sz m cs=>simpa[eG,jN,AV.noBor]using h
 all_goals exact⟨h,rfl⟩
theorem aOr:∀{n:Nat} {xs:List AV},aN xs=true->aN (eV n xs).1=true/\jN (eV n xs).2.1=true
 |_,[],_=>⟨rfl,rfl⟩
 |n,x::xs,h=>by simp only[aN,x5]at h;obtain⟨a1,a2⟩:=aOn (n:=n) h.1;obtain⟨b1,b2⟩:=aOr (n:=(eG n x).2.2) h.2;simp only[eV,aN,a1,b1,Bool.and_self,true_and];exact uM b2 a2
theorem aPo{n:Nat}{x:AV}(h:x.noBor=true):(eL n x).1.noBor=true/\jN (eL n x).2.1=true:=by
 cases x
 case agg vs=>exact aOr (by simpa[AV.noBor]using h)
 all_goals exact aOn h
theorem aOw:∀{n:Nat} {xs:List AV},aN xs=true->aN (dW n xs).1=true/\jN (dW n xs).2.1=true
 |_,[],_=>⟨rfl,rfl⟩
 |n,x::xs,h=>by simp only[aN,x5]at h;obtain⟨a1,a2⟩:=aPo (n:=n) h.1;obtain⟨b1,b2⟩:=aOw (n:=(eL n x).2.2) h.2;simp only[dW,aN,a1,b1,Bool.and_self,true_and];exact uM b2 a2
theorem bGh{n:Nat}{x:AV}(h:x.noBor=true):(bM n x).1.noBor=true/\jN (bM n x).2.1=true:=by
 cases x
 case tup vs=>exact aOw (by simpa[AV.noBor]using h)
 all_goals exact aPo h
theorem Inl.of_fn_read{f:FuncId}{args args':List AV}{r:AV}(hc:Cloz H args args')(hp:Fn P f args' r)(hr:r.noRef=true)(hb:r.noBor=true):
 Inl P f args H n (bM n r).1 ((bM n r).2.1++H) (bM n r).2.2:=by
 intro Φ w β vs hK hH hv;have hv':RVt (Φ.all w true) 0 (λ_ _=>⟨false,0,0,0⟩) args' vs:=hc.sound hH hv;obtain⟨u1,u2,u3⟩:=bBm (d:=n) (n:=0) hr;rw[p9]at u1 u2 u3;obtain⟨b1,b2⟩:=bGh (n:=0) hb;refine(hp (Φ.all w true) w _ vs hK.all RH.empty hv').mono λe w' ⟨v,Φ1,β1,he,g1,g2,g3,g4,g5,g6,g7⟩=>?_;have hup:∀b x,Φ b=some x->Φ1 b=some x:=λb x h=>g3 b x (Fz.le_all b x h);have hK2:Keep Φ w':=λb x h=>g4 b x (hup b x h);refine⟨v,Φ,λi=>if i<n then β i else β1 (i-n),he,by rw[<-u3];omega,λi hi=>by simp[hi],Fz.le_refl Φ,hK2,?_,?_,g7⟩;{rw[<-u1,<-u3,Nat.add_comm];exact RV.up (λ_ _ h=>h) (λi _=>by simp[show¬i+n<n by omega]) (RV.noBor b1 g5)}
 · rw[<-u2,<-u3,Nat.add_comm]
   have hall:∀r π t,H.get r π=some t->(β r π).ex=true->∃o,w.heap[(β r π).b]? =some o/\Φ (β r π).b=none/\Φ1 (β r π).b=some (true,o):=λr π t hr hx=>by obtain⟨k1,cur,k2,_⟩:=hH.own hr hx;exact⟨_,k2,k1,g3 _ _ (by simp[Fz.all,k1,k2])⟩
   refine RH.join hH g6 (λr π t hr hx=>?_) (λ_ _ h=>h) (λxs vs h ⟨r,π,t,hr,hx⟩=>?_) λb hb=>?_;{obtain⟨o,k1,k2,k3⟩:=hall r π t hr hx;exact⟨by simp[k3],by rw[k1];exact g4 _ _ k3,k2⟩};{subst hx;exact RVs.noBor (aKb (aTu b2 hr)) h}
   · cases e:Φ b with
     |none=>rfl
     |some x=>rw[hup b x e]at hb;cases hb
end
section
variable {P : Program} {w0 : World} {Φ : Fz} {n : Nat} {β : Spots} {env : List AV} {H : Heap} {a : Act} {w : World}
structure Rel (w0 : World) (Φ : Fz) (n : Nat) (β : Spots) (env : List AV) (H : Heap) (a : Act) (w : World) : Prop where
 env:Env Φ n β env a
 heap:RH Φ n β H w
 keep:Keep Φ w
 since:Below 0 w0 w
 defers:a.defers=[]
theorem Rel.put {Φ':Fz} {n':Nat} {β':Spots} {H':Heap} {w':World} {x:AV} {v:Value} (h:Rel w0 Φ n β env H a w) (d:Option Nat) (hΦ:Φ.le Φ') (hn:n<=n') (hb:∀i,i<n->β' i=β i) (hx:RV Φ' n' β' x v) (hH:RH Φ' n' β' H' w')
 (hB:Keep Φ' w') (hs:Below 0 w w'):Rel w0 Φ' n' β' (Go.Proofs.YtcgggihjcelmhaaGreat.put env d x) H' (a.put d v) w':=
 ⟨(h.env.more hΦ hn hb).put hx,hH,hB,h.since.trans hs,by cases d<;>exact h.defers⟩
theorem wY{ops:List Oper}{d:Nat}{j:Nat}{o:Oper}{b:Bool}(ho:ops[j]? =some o)(hd:o.dst=some d)(he:Env Φ n β env a)(hb:env.getD d .unk= .bool b):
 yielded ops.toArray a.tmps j=some b:=by
 have h:=he.rel d;rw[hb]at h;simp only[RV]at h;unfold yielded;have hlt:d<a.tmps.size:=(by rcases Nat.lt_or_ge d a.tmps.size with h1|h1;{exact h1};{simp[Array.getD,Nat.not_lt.2 h1,undef]at h});have:a.tmps[d]? =some (.bool b):=(by simp only[Array.getD,hlt,dite_true]at h;rw[Array.getElem?_eq_getElem hlt];exact congrArg some h);simp[ho,hd,this]
theorem zI{ops:List Oper}{d:Nat}{j:Nat}{o:Oper}(ho:ops[j]? =some o)(hd:o.dst=some d)(he:Env Φ n β env a)(hb:env.getD d .unk= .und):
 yielded ops.toArray a.tmps j=none:=by
 have h:=he.rel d;rw[hb]at h;simp only[RV]at h;unfold yielded;simp only[List.getElem?_toArray,ho,Option.bind_some,hd];rcases Nat.lt_or_ge d a.tmps.size with h1|h1;{simp only[Array.getD,h1,dite_true]at h;have:a.tmps[d]? =some undef:=(by rw[Array.getElem?_eq_getElem h1];exact congrArg some h);rw[this];rfl};{rw[Array.getElem?_eq_none h1]}
theorem jE{ops:List Oper}{o:Oper}{lo:LOper}(h:aFl P ops o=some lo):
 lD P o=some lo.op/\gJ ops o.guard=some lo.g/\lo.dst=o.dst/\(∀f xs,lo.op= .call f xs->aFt P f=true):=by
 unfold aFl at h;split at h;{rename_i x g h1 h2;split at h;{split at h;{rename_i hc;cases h;exact⟨h1,h2,rfl,λf xs e=>by cases e;exact hc⟩};{cases h}};{rename_i hn;cases h;exact⟨h1,h2,rfl,λf xs e=>absurd e (hn f xs)⟩}};{cases h}
theorem aHk {o:Oper} {lo:LOp} {K:AV->Heap->Nat->Prop} (hl:lD P o=some lo) (hc:∀f xs,lo= .call f xs->aFt P f=true) (h:Rel w0 Φ n β env H a w) (hx:xop P env H n K lo)
 {next:Act->World->Prop} {Q:Exit->Act->World->Prop}
 (hn:∀x v Φ' H' n' β' w',K x H' n'->n<=n'->(∀i,i<n->β' i=β i)->Φ.le Φ'->Rel w0 Φ' n' β' (Go.Proofs.YtcgggihjcelmhaaGreat.put env o.dst x) H' (a.put o.dst v) w'->next (a.put o.dst v) w'):o.wp P a w next Q:=by
 (cases hcall:lo.isCall with|false=>obtain⟨nx,v,w',β',x,H',n',hr,hv,hK,h1,h2,h3,h4,h5,h6⟩:=bUk hl hcall h.env h.heap h.keep hx;unfold Oper.wp;rw[hr];have hR:=h.put o.dst (Fz.le_refl Φ) h1 h2 h3 h4 h5 h6;rcases hv with rfl|⟨rfl,rfl⟩;{exact hn x v Φ H' n' β' w' hK h1 h2 (Fz.le_refl Φ) hR};{exact hn x undef Φ H' n' β' w' hK h1 h2 (Fz.le_refl Φ) hR}|true=>cases lo<;>simp only[LOp.isCall,o8]at hcall;rename_i f ys;obtain⟨xs,ats,ho,hys⟩:=aYi hl;simp only[xop]at hx;obtain⟨r,H',n',hI,hK⟩:=hx;unfold Oper.wp;rw[bDd ho (hc f ys rfl),Oper.upon_enter];refine(hI Φ w β _ h.keep h.heap (aAf h.env hys)).mono λe w' ⟨v,Φ',β',he,h1,h2,h3,h4,h5,h6,h7⟩=>?_;subst he;exact hn r v Φ' H' n' β' w' hK h1 h2 h3 (h.put o.dst h3 h1 h2 h5 h6 h4 h7))
theorem aBr{ops:List Oper}{K:List AV->Heap->Nat->Prop}{Q:Exit->Act->World->Prop}:∀(l:List Oper) (los:List LOper) (Φ:Fz) (n:Nat) (β:Spots) (env:List AV) (H:Heap) (a:Act) (w:World),
 bX P ops l=some los->Rel w0 Φ n β env H a w->eX P K los env H n->
 (∀env' H' n' Φ' β' a' w',K env' H' n'->n<=n'->(∀i,i<n->β' i=β i)->Φ.le Φ'->Rel w0 Φ' n' β' env' H' a' w'->Q .normal a' w')->wpList P ops.toArray Q l a w
 |[],los,Φ,n,β,env,H,a,w,hl,h,hx,hQ=>by simp only[bX,w7.injEq]at hl;subst hl;exact hQ env H n Φ β a w hx (k9 _) (λ_ _=>rfl) (Fz.le_refl Φ) h
 |o::l,los,Φ,n,β,env,H,a,w,hl,h,hx,hQ=>by
  simp only[bX]at hl;split at hl
  · rename_i lo los' h1 h2
    cases hl;obtain⟨g1,g2,g3,g4⟩:=jE h1;have more:∀x v Φ' H' n' β' w',eX P K los' (Go.Proofs.YtcgggihjcelmhaaGreat.put env lo.dst x) H' n'->n<=n'->(∀i,i<n->β' i=β i)->Φ.le Φ'->Rel w0 Φ' n' β' (Go.Proofs.YtcgggihjcelmhaaGreat.put env o.dst x) H' (a.put o.dst v) w'->wpList P ops.toArray Q l (a.put o.dst v) w':=λx v Φ' H' n' β' w' hK hn hb hf hR=>by rw[g3]at hK;exact aBr l los' Φ' n' β' _ H' _ w' h2 hR hK λenv2 H2 n2 Φ2 β2 a2 w2 k1 k2 k3 k4 k5=>hQ env2 H2 n2 Φ2 β2 a2 w2 k1 (qQQ hn k2) (λi hi=>(k3 i (o7 hi hn)).trans (hb i hi)) (hf.trans k4) k5
    have run:xop P env H n (λv H' n'=>eX P K los' (Go.Proofs.YtcgggihjcelmhaaGreat.put env lo.dst v) H' n') lo.op->o.wp P a w (wpList P ops.toArray Q l) Q:=λhx=>aHk g1 g4 h hx λx v Φ' H' n' β' w' hK h1 h2 h3 hR=>more x v Φ' H' n' β' w' hK h1 h2 h3 hR
    have skip:eX P K los' (Go.Proofs.YtcgggihjcelmhaaGreat.put env lo.dst .und) H n->wpList P ops.toArray Q l (a.put o.dst undef) w:=λhx=>
     more .und undef Φ H n β w hx (k9 _) (λ_ _=>rfl) (Fz.le_refl Φ) (h.put o.dst (Fz.le_refl Φ) (k9 _) (λ_ _=>rfl) (by simp[RV]) h.heap h.keep (Below.refl _ _))
    unfold wpList;(cases hg:o.guard with|none=>rw[hg]at g2;simp only[gJ,w7.injEq]at g2;simp only[eX,<-g2]at hx;simp only[Region.wanted,hg,if_true];exact .inl (run hx)|some p=>obtain⟨j,want⟩:=p;rw[hg]at g2;simp only[gJ]at g2;split at g2;{rename_i oj hj;split at g2;{rename_i d hd;simp only[w7.injEq]at g2;simp only[eX,<-g2]at hx;split at hx;{rename_i b hb;have hy:=wY hj hd h.env hb;simp only[Region.wanted,hg,hy];by_cases hbw:b=want;{subst hbw;rw[if_pos (by simp)];rw[if_pos rfl]at hx;exact .inl (run hx)};{rw[if_neg (by simp[hbw])];rw[if_neg hbw]at hx;exact skip hx}};{rename_i hb;have hy:=zI hj hd h.env hb;simp only[Region.wanted,hg,hy];rw[if_neg (by simp)];exact skip hx};{exact hx.elim}};{cases g2}};{cases g2})
  {cases hl}
def aEl:AV->Bool
 | .bool _| .int _ _=>true
 |_=>false
def AV.isFlat:AV->Bool
 | .bool _| .int _ _=>true
 | .agg vs=>vs.all aEl
 |_=>false
def conc1:AV->Value
 | .bool b=> .bool b
 | .int k z=> .int k z
 |_=>undef
def AV.conc:AV->Value
 | .agg vs=> .agg (vs.map conc1).toArray
 |x=>conc1 x
def xq(P:Program)(env:List AV)(H:Heap)(n:Nat)(K:AV->Prop):LOp->Prop
 | .call f xs=>∃args r,Cloz H (xs.map (·.val env)) args/\r.isFlat=true/\Fn P f args r/\K r
 |o=>o.quiet=true/\xop P env H n (λv _ _=>K v) o
def xqs(P:Program)(H:Heap)(n:Nat)(K:List AV->Prop):List LOper->List AV->Prop
 |[],env=>K env
 |o::os,env=>match o.g with
  |none=>xq P env H n (λv=>xqs P H n K os (put env o.dst v)) o.op
  |some (t,want)=>match env.getD t .unk with
   | .bool b=>if b=want then xq P env H n (λv=>xqs P H n K os (put env o.dst v)) o.op else xqs P H n K os (put env o.dst .und)
   | .und=>xqs P H n K os (put env o.dst .und)
   |_=>False
theorem RV.flat{r:AV}{Φ1:Fz}{β1:Spots}{m:Nat}{v:Value}(hf:r.isFlat=true)(h:RV Φ1 m β1 r v):RV Φ n β r v:=by
 have keep:∀(vs:List AV) (us:List Value),vs.all aEl=true->RVs Φ1 m β1 vs us->RVs Φ n β vs us:=by
  intro vs;induction vs with
  |nil=>intro us _ h;simpa only[RVs]using h
  |cons y vs ih=>intro us hv h;simp only[y4,x5]at hv;simp only[RVs]at h ⊢;obtain⟨v,us',e,o,h1,h2⟩:=h;refine⟨v,us',e,o,?_,ih us' hv.2 h2⟩;cases y<;>simp only[aEl,o8,false_and]at hv;all_goals simpa only[RV]using h1
 cases r<;>simp only[AV.isFlat,o8]at hf
 case bool b=>simpa only[RV]using h
 case int k z=>simpa only[RV]using h
 case agg vs=>simp only[RV]at h ⊢;obtain⟨arr,e,h2⟩:=h;exact⟨arr,e,keep vs _ hf h2⟩
theorem RVs.conc1:∀{xs:List AV} {vs:List Value},xs.all aEl=true->RVs Φ n β xs vs->vs=xs.map Go.Proofs.YtcgggihjcelmhaaGreat.conc1
 |[],vs,_,h=>by simp only[RVs]at h;simp[h]
 |x::xs,vs,hf,h=>by simp only[y4,x5]at hf;simp only[RVs]at h;obtain⟨v,vs',rfl,_,h1,h2⟩:=h;rw[RVs.conc1 hf.2 h2];cases x<;>simp only[aEl,o8,false_and]at hf;all_goals simp only[RV]at h1;simp[Go.Proofs.YtcgggihjcelmhaaGreat.conc1,h1]
theorem RV.conc{x:AV}{v:Value}(hf:x.isFlat=true)(h:RV Φ n β x v):v=x.conc:=by
 cases x<;>simp only[AV.isFlat,o8]at hf
 case bool b=>simp only[RV]at h;subst h;rfl
 case int k z=>simp only[RV]at h;exact h.1
 case agg vs=>simp only[RV]at h;obtain⟨arr,rfl,h2⟩:=h;simp only[AV.conc];rw[<-RVs.conc1 hf h2]
theorem aSu{n:Nat}:∀{xs:List AV},xs.all aEl=true->eV n xs=(xs,[],n)
 |[],_=>rfl
 |x::xs,h=>by simp only[y4,x5]at h;have h1:eG n x=(x,[],n):=(by cases x<;>simp_all [aEl,eG]);simp only[eV,h1,aSu h.2,r8]
theorem aUf{n:Nat}{x:AV}(h:x.isFlat=true):bM n x=(x,[],n):=by
 cases x<;>simp only[AV.isFlat,o8]at h
 case bool b=>rfl
 case int k z=>rfl
 case agg vs=>simp only[bM,eL,aSu h]
theorem Keep.below{Φ':Fz}{f:Bool}{w':World}(hK:Keep Φ w)(hle:(Φ.all w f).le Φ')(hk:Keep Φ' w')(hs:Below 0 w w'):Below w.heap.size w w':=by refine⟨hs.os,hs.tape,hs.output,hs.size,λk hk2=>?_⟩;have hw:w.heap[k]? =some w.heap[k]:=Array.getElem?_eq_getElem hk2;(cases e:Φ k with|none=>have h1:Φ.all w f k=some (f,w.heap[k]):=(by simp[Fz.all,e,hk2]);rw[hw];exact hk k _ (hle k _ h1)|some x=>have h1:Φ.all w f k=some x:=(by simp[Fz.all,e]);rw[hk k x (hle k x h1),hK k x e])
theorem Fn.flat_call{f:FuncId}{args args':List AV}{r:AV}{vs:List Value}(hp:Fn P f args' r)(hf:r.isFlat=true)(hc:Cloz H args args')(hH:RH Φ n β H w)(hK:Keep Φ w)(hv:RVt Φ n β args vs):
 Calls P f vs.toArray w λe w'=>e= .returned r.conc/\Below w.heap.size w w':=by
 have hv':RVt (Φ.all w true) 0 (λ_ _=>⟨false,0,0,0⟩) args' vs:=hc.sound hH hv;refine(hp (Φ.all w true) w _ vs hK.all RH.empty hv').mono λe w' ⟨v,Φ1,β1,he,g1,g2,g3,g4,g5,g6,g7⟩=>?_;rw[aUf hf]at g5;exact⟨by rw[he,RV.conc hf g5],hK.below g3 g4 g7⟩
theorem RV.of_conc{r:AV}{Φ1:Fz}{β1:Spots}{m:Nat}{v:Value}(hf:r.isFlat=true)(h:RV Φ1 m β1 r v):RV Φ n β r r.conc:=by have:=RV.flat (Φ:=Φ) (n:=n) (β:=β) hf h;rwa[RV.conc hf this]at this
theorem bTy {o:Oper} {lo:LOp} {K:AV->Prop} (hl:lD P o=some lo) (hc:∀f xs,lo= .call f xs->aFt P f=true) (h:Rel w0 Φ n β env H a w) (hx:xq P env H n K lo)
 {next:Act->Prop} (hn:∀x v,K x->RV Φ n β x v->next (a.put o.dst v)):o.quiet P a (λw'=>Below w.heap.size w w') next:=by
 cases hcall:lo.isCall with
 |false=>have hx':lo.quiet=true/\xop P env H n (λv _ _=>K v) lo:=(by cases lo<;>first|exact hx|simp[LOp.isCall]at hcall);obtain⟨v,x,hr,hv,hK⟩:=bEw hl hx'.1 h.env h.heap h.keep hx'.2;refine⟨v,λw' hw'=>?_,hn x v hK hv⟩;unfold Oper.quietAt;rw[hr w' hw'];exact⟨rfl,rfl⟩
 |true=>
  cases lo<;>simp only[LOp.isCall,o8]at hcall;rename_i f ys;obtain⟨xs,ats,ho,hys⟩:=aYi hl;simp only[xq]at hx;obtain⟨args,r,h1,h2,h3,h4⟩:=hx;have hv:=aAf h.env hys
  have later:∀w',Below w.heap.size w w'->RH Φ n β H w'/\Keep Φ w':=λw' hw'=>
   ⟨h.heap.kept (Fz.le_refl Φ) (k9 _) (λ_ _=>rfl) (λr π t hr hx=>(h.heap.own hr hx).1) (λr π t hr hx=>hw'.block _ (h.heap.lt hr hx)),λb x hb=>by rw[hw'.block _ (h.keep.lt hb)];exact h.keep b x hb⟩
  refine⟨r.conc,λw' hw'=>?_,?_⟩;{unfold Oper.quietAt;rw[bDd ho (hc f ys rfl)];refine⟨rfl,?_⟩;refine(h3.flat_call h2 h1 (later w' hw').1 (later w' hw').2 hv).mono λe w2 ⟨he,k3⟩=>?_;exact⟨he,hw'.trans (k3.mono hw'.size)⟩};{have hv':RVt (Φ.all w true) 0 (λ_ _=>⟨false,0,0,0⟩) args _:=h1.sound h.heap hv;obtain⟨e,w2,fr,⟨v,Φ1,β1,he,g1,g2,g3,g4,g5,_⟩,_⟩:=h3 (Φ.all w true) w _ _ h.keep.all RH.empty hv' [];rw[aUf h2]at g5;exact hn r r.conc h4 (RV.of_conc h2 g5)}
theorem aXw{ops:List Oper}{K:List AV->Prop}{Q:Act->Prop}:∀(l:List Oper) (los:List LOper) (env:List AV) (a:Act),
 bX P ops l=some los->Rel w0 Φ n β env H a w->xqs P H n K los env->(∀env' a',K env'->Rel w0 Φ n β env' H a' w->Q a')->wpQuiet P ops.toArray (λw'=>Below w.heap.size w w') Q l a
 |[],los,env,a,hl,h,hx,hQ=>by simp only[bX,w7.injEq]at hl;subst hl;exact hQ env a hx h
 |o::l,los,env,a,hl,h,hx,hQ=>by
  simp only[bX]at hl;split at hl
  · rename_i lo los' h1 h2
    cases hl;obtain⟨g1,g2,g3,g4⟩:=jE h1;have more:∀x v,xqs P H n K los' (Go.Proofs.YtcgggihjcelmhaaGreat.put env lo.dst x)->RV Φ n β x v->wpQuiet P ops.toArray (λw'=>Below w.heap.size w w') Q l (a.put o.dst v):=λx v hK hv=>by rw[g3]at hK;exact aXw l los' _ _ h2 (h.put o.dst (Fz.le_refl Φ) (k9 _) (λ_ _=>rfl) hv h.heap h.keep (Below.refl _ _)) hK hQ
    have run:xq P env H n (λv=>xqs P H n K los' (Go.Proofs.YtcgggihjcelmhaaGreat.put env lo.dst v)) lo.op->o.quiet P a (λw'=>Below w.heap.size w w') (wpQuiet P ops.toArray (λw'=>Below w.heap.size w w') Q l):=λhx=>
     bTy g1 g4 h hx λx v hK hv=>more x v hK hv
    have skip:xqs P H n K los' (Go.Proofs.YtcgggihjcelmhaaGreat.put env lo.dst .und)->wpQuiet P ops.toArray (λw'=>Below w.heap.size w w') Q l (a.put o.dst undef):=λhx=>more .und undef hx (by simp[RV]);unfold wpQuiet;(cases hg:o.guard with|none=>rw[hg]at g2;simp only[gJ,w7.injEq]at g2;simp only[xqs,<-g2]at hx;simp only[Region.wanted,hg,if_true];exact run hx|some p=>obtain⟨j,want⟩:=p;rw[hg]at g2;simp only[gJ]at g2;split at g2;{rename_i oj hj;split at g2;{rename_i d hd;simp only[w7.injEq]at g2;simp only[xqs,<-g2]at hx;split at hx;{rename_i b hb;have hy:=wY hj hd h.env hb;simp only[Region.wanted,hg,hy];by_cases hbw:b=want;{subst hbw;rw[if_pos (by simp)];rw[if_pos rfl]at hx;exact run hx};{rw[if_neg (by simp[hbw])];rw[if_neg hbw]at hx;exact skip hx}};{rename_i hb;have hy:=zI hj hd h.env hb;simp only[Region.wanted,hg,hy];rw[if_neg (by simp)];exact skip hx};{exact hx.elim}};{cases g2}};{cases g2})
  {cases hl}
theorem bTc {o:Oper} {lo:LOp} {K:AV->Prop} (hl:lD P o=some lo) (hq:lo.quiet=true) (h:Rel w0 Φ n β env H a w) (hx:xq P env H n K lo)
 {next:Act->Prop} (hn:∀x v,K x->RV Φ n β x v->next (a.put o.dst v)):o.still P a w next:=by
 have hx':lo.quiet=true/\xop P env H n (λv _ _=>K v) lo:=(by cases lo<;>first|exact hx|simp[LOp.quiet]at hq);obtain⟨v,x,hr,hv,hK⟩:=bEw hl hx'.1 h.env h.heap h.keep hx'.2;unfold Oper.still;rw[hr w (Below.refl _ _)];exact⟨rfl,hn x v hK hv⟩
theorem aYl{ops:List Oper}{K:List AV->Prop}{Q:Act->Prop}:∀(l:List Oper) (los:List LOper) (env:List AV) (a:Act),
 bX P ops l=some los->los.all (·.op.quiet)=true->Rel w0 Φ n β env H a w->xqs P H n K los env->(∀env' a',K env'->Rel w0 Φ n β env' H a' w->Q a')->wpStill P ops.toArray w Q l a
 |[],los,env,a,hl,_,h,hx,hQ=>by simp only[bX,w7.injEq]at hl;subst hl;exact hQ env a hx h
 |o::l,los,env,a,hl,hall,h,hx,hQ=>by
  simp only[bX]at hl;split at hl
  · rename_i lo los' h1 h2
    cases hl;simp only[y4,x5]at hall;obtain⟨g1,g2,g3,g4⟩:=jE h1;have more:∀x v,xqs P H n K los' (Go.Proofs.YtcgggihjcelmhaaGreat.put env lo.dst x)->RV Φ n β x v->wpStill P ops.toArray w Q l (a.put o.dst v):=λx v hK hv=>by rw[g3]at hK;exact aYl l los' _ _ h2 hall.2 (h.put o.dst (Fz.le_refl Φ) (k9 _) (λ_ _=>rfl) hv h.heap h.keep (Below.refl _ _)) hK hQ
    have run:xq P env H n (λv=>xqs P H n K los' (Go.Proofs.YtcgggihjcelmhaaGreat.put env lo.dst v)) lo.op->o.still P a w (wpStill P ops.toArray w Q l):=λhx=>
     bTc g1 hall.1 h hx λx v hK hv=>more x v hK hv
    have skip:xqs P H n K los' (Go.Proofs.YtcgggihjcelmhaaGreat.put env lo.dst .und)->wpStill P ops.toArray w Q l (a.put o.dst undef):=λhx=>more .und undef hx (by simp[RV]);unfold wpStill;(cases hg:o.guard with|none=>rw[hg]at g2;simp only[gJ,w7.injEq]at g2;simp only[xqs,<-g2]at hx;simp only[Region.wanted,hg,if_true];exact run hx|some p=>obtain⟨j,want⟩:=p;rw[hg]at g2;simp only[gJ]at g2;split at g2;{rename_i oj hj;split at g2;{rename_i d hd;simp only[w7.injEq]at g2;simp only[xqs,<-g2]at hx;split at hx;{rename_i b hb;have hy:=wY hj hd h.env hb;simp only[Region.wanted,hg,hy];by_cases hbw:b=want;{subst hbw;rw[if_pos (by simp)];rw[if_pos rfl]at hx;exact run hx};{rw[if_neg (by simp[hbw])];rw[if_neg hbw]at hx;exact skip hx}};{rename_i hb;have hy:=zI hj hd h.env hb;simp only[Region.wanted,hg,hy];rw[if_neg (by simp)];exact skip hx};{exact hx.elim}};{cases g2}};{cases g2})
  {cases hl}
theorem aAc{ops:List Oper}:∀(k:Nat) (l:List Oper) (los:List LOper),bX P ops l=some los->bX P ops (l.take k)=some (los.take k)/\bX P ops (l.drop k)=some (los.drop k)
 |0,l,los,h=>by simp[bX,h]
 |k+1,[],los,h=>by simp only[bX,w7.injEq]at h;subst h;simp[bX]
 |k+1,o::l,los,h=>by simp only[bX]at h;split at h;{rename_i lo los' h1 h2;cases h;obtain⟨g1,g2⟩:=aAc k l los' h2;exact⟨by simp[bX,h1,g1],by simpa using g2⟩};{cases h}
theorem Rel.later{w':World}(h:Rel w0 Φ n β env H a w)(hw:Below w.heap.size w w'):Rel w0 Φ n β env H a w':=⟨h.env,h.heap.kept (Fz.le_refl Φ) (k9 _) (λ_ _=>rfl) (λr π t hr hx=>(h.heap.own hr hx).1) (λr π t hr hx=>hw.block _ (h.heap.lt hr hx)),λb x hb=>by rw[hw.block _ (h.keep.lt hb)];exact h.keep b x hb,h.since.trans (hw.mono (m9 _)),h.defers⟩
end
inductive LCode where
 |skip
 |reg (draw:Bool) (ops:List LOper)
 |regt (head tail:List LOper)
 |regd (head tail:List LOper)
 |rega (Ls:List (List LOper))
 |seq (a b:LCode)
 |cond (c:Opd) (a b:LCode)
 |block (id:Nat) (c:LCode)
 |loop (c:LCode)
 |exit (id:Nat)
 |ret
def aXz:List LOper->Bool
 |[]=>true
 |[o]=>o.op.quiet||o.op.isCall
 |_::os=>aXz os
def Opd.tmps:Opd->List Nat
 | .t i=>[i]
 | .c _=>[]
def aWr:Option Opd->List Nat
 |some x=>x.tmps
 |none=>[]
def LOp.reads:LOp->List Nat
 | .mv x| .box _ x| .load _ _ x| .un _ x| .fadr _ x| .fld _ _ _ x| .ext x _| .len x| .cvt _ x| .nck x| .mk _ _ _ _ x=>x.tmps
 | .pick c a b=>c.tmps++(a.tmps++b.tmps)
 | .fresh _ _=>[]
 | .bld _ ps=>ps.flatMap λp=>p.2.2.tmps
 | .bsl _ _ _ _ ps=>ps.flatMap λp=>p.2.2.tmps
 | .store _ a x| .bin _ a x| .binb _ a x| .iadr _ a x| .app _ _ _ _ a x| .cpy _ a x| .sh _ a x| .beq _ _ a x| .mx _ a x=>a.tmps++x.tmps
 | .slc _ x lo hi=>x.tmps++(aWr lo++aWr hi)
 | .call _ xs=>xs.flatMap Opd.tmps
def LOper.reads(o:LOper):List Nat:=o.op.reads++(match o.g with|some (t,_)=>[t]|none=>[])
def LOp.chain:LOp->Bool
 | .bsl _ _ _ _ _=>false
 | .fresh _ _=>false
 |o=>!o.quiet
def LOper.free(i j:LOper):Bool:=(match i.dst with|some d=>!(j.reads.contains d)&&j.dst !=some d|none=>true)
def sB(ops:List Oper)(j i:Nat):Bool:=match ops[j]? with
 |some o=>o.after.any λe=>e.on==i&&Region.binds .any e
 |none=>false
def bPw(ops:List Oper):Nat->List Nat->Bool
 |0,_=>true
 |i+1,S=>S.any (λk=>sB ops k i)&&bPw ops i (i::S)
def uF(ops:List Oper):Nat->List Nat->List Nat
 |0,S=>S
 |i+1,S=>if S.any (λk=>sB ops k i)=true then uF ops i (i::S)else uF ops i S
def aCf(los:List LOper)(k:Nat):Bool:=match los[k]? with
 |some o=>o.op.chain
 |none=>false
def aCb(los:List LOper)(i:Nat):Bool:=match los[i]? with
 |some o=>(match o.dst,o.op,o.g with|some _,.ext _ _,none=>true|_,_,_=>false)
 |none=>false
def aEm(ops:List Oper)(los:List LOper)(h i:Nat):Bool:=Nat.blt i h&&aCb los i&&match ops[i]? with
 |some o=>(o.after.all λe=>!Region.binds .any e||!aCb los e.on)&&(u7 ops.length).all λj=>j==i||(Nat.blt j h&&!aCb los j)||sB ops j i||(match ops[j]? with|some oj=>o.apart ops.toArray oj|none=>true)
 |none=>false
def hT(ops:List Oper)(los:List LOper)(h:Nat):Bool:=
 Region.noSelect ops.toArray&&Nat.ble h los.length&&(u7 los.length).all λj=>
  (match ops[j]? with|some o=>o.after.all λe=>!Region.binds .any e||decide (e.on<j)|none=>false)&&
  (if h<=j then(u7 j).all (λi=>(uF ops j [j]).contains i||aEm ops los h i)else true)&&
  (u7 j).all λi=>(match los[i]?,los[j]? with|some a,some b=>a.dst.isNone||a.dst !=b.dst|_,_=>false)&&(sB ops j i||(match los[i]?,los[j]? with
   |some a,some b=>a.free b&&b.free a&&(!(a.op.chain&&b.op.chain)||(uF ops j [j]).contains i)
   |_,_=>false))
def aSy(ops:List Oper):Nat->Nat
 |0=>0
 |j+1=>if bPw ops j [j]=true then aSy ops j else j+1
def aZs(ops:List Oper)(los:List LOper):Nat->Nat
 |0=>0
 |j+1=>if(u7 j).all (λi=>(uF ops j [j]).contains i||aCb los i)=true then aZs ops los j else j+1
def storeAt(los:List LOper)(i:Nat):Bool:=match los[i]? with
 |some o=>(match o.op with| .store _ (.t _) _=>true|_=>false)
 |none=>false
def aSv(ops:List Oper)(los:List LOper)(n:Nat):Nat:=match (u7 (aSy ops n)).find? (λj=>Nat.ble (aZs ops los n) j&&storeAt los j)with
 |some j=>(match hT ops los j with
  |true=>j
  |false=>match hT ops los (aZs ops los n)with
   |true=>aZs ops los n
   |false=>aSy ops n)
 |none=>aSy ops n
def tW(ops:Array Oper):Nat->Array Bool->List (List Nat)
 |0,_=>[[]]
 |f+1,listed=>match Region.ready .any ops listed with
  |[]=>[[]]
  |rs=>rs.flatMap λi=>(tW ops f (listed.setIfInBounds i true)).map (i::·)
def aMa(los:List LOper)(i:Nat):LOper:=los.getD i ⟨none,.mv (.c .unk),none⟩
def LOp.isMk:LOp->Bool
 | .mk _ _ _ _ _=>true
 |_=>false
def oZ(P:Program)(ops:Array Oper)(draw:Bool):Option LCode:=
 match bX P ops.toList ops.toList with
 |some los=>
  if draw=false then some (.reg false los)
  else if P.follows .mixedOrders=false then none
  else if aXz los=false/\Region.lexTailB .any ops (ops.size-1)=true/\(los.take (ops.size-1)).all (·.op.quiet)=true then some (.regt (los.take (ops.size-1)) (los.drop (ops.size-1)))
  else if Region.lexB .any ops=true/\los.all (·.op.quiet)=true then some (.reg true los)
  else if hT ops.toList los (aSv ops.toList los los.length)=true then some (.regd (los.take (aSv ops.toList los los.length)) (los.drop (aSv ops.toList los los.length)))
  else if(los.any (·.op.isMk)&&los.all (λo=>!o.op.isCall)&&Nat.ble ops.size 6&&(ops.toList.zipIdx.all λp=>p.1.after.all λe=>!Region.binds .any e||decide (e.on<p.2))&&Region.noSelect ops)=true then some (.rega ((tW ops ops.size (Array.replicate ops.size false)).map λis=>is.map (aMa los)))
  else if Region.lexB .any ops=true then some (.reg true los)
  else none
 |none=>none
theorem iN{P:Program}{ops:Array Oper}{draw:Bool}{lc:LCode}(h:oZ P ops draw=some lc):(∃d l,lc= .reg d l)\/(∃x y,lc= .regt x y)\/(∃x y,lc= .regd x y)\/∃Ls,lc= .rega Ls:=by
 unfold oZ at h
 repeat' (split at h)
 all_goals cases h
 all_goals first
  |exact .inl ⟨_,_,rfl⟩
  |exact .inr (.inl ⟨_,_,rfl⟩)
  |exact .inr (.inr (.inl ⟨_,_,rfl⟩))
  |exact .inr (.inr (.inr ⟨_,rfl⟩))
def eN(P:Program):Code->Option LCode
 | .skip=>some .skip
 | .region _ ops draw=>oZ P ops draw
 | .seq a b=>match eN P a,eN P b with|some a,some b=>some (.seq a b)|_,_=>none
 | .cond c a b=>match aI c,eN P a,eN P b with|some c,some a,some b=>some (.cond c a b)|_,_,_=>none
 | .block id c=>(eN P c).map (.block id)
 | .loop c=>(eN P c).map .loop
 | .exit id=>some (.exit id)
 | .ret=>some .ret
 |_=>none
inductive Out where
 |normal
 |exit (id:Nat)
 |ret
abbrev Post:=Out->List AV->Heap->Nat->Prop
def aMm:Exit->Option Out
 | .normal=>some .normal
 | .exit i=>some (.exit i)
 | .ret=>some .ret
 |_=>none
def After(w0:World)(Φ:Fz)(m:Nat)(β:Spots)(Q:Post)(e:Exit)(a:Act)(w:World):Prop:=∃o env H n' Φ' β',aMm e=some o/\Q o env H n'/\m<=n'/\(∀i,i<m->β' i=β i)/\Φ.le Φ'/\Rel w0 Φ' n' β' env H a w
def Aw(P:Program)(m:Nat)(lc:LCode)(Q:Post)(env:List AV)(H:Heap)(n:Nat):Prop:=∀c,eN P c=some lc->∀w0 Φ β a w,m<=n->Rel w0 Φ n β env H a w->c.wp P (After w0 Φ m β Q) a w
section
variable {P : Program} {Q : Post} {env : List AV} {H : Heap} {n m : Nat}
theorem After.of{w0:World}{Φ:Fz}{β:Spots}{a:Act}{w:World}{e:Exit}{o:Out}(ho:aMm e=some o)(hq:Q o env H n)(hm:m<=n)(h:Rel w0 Φ n β env H a w):After w0 Φ m β Q e a w:=⟨o,env,H,n,Φ,β,ho,hq,hm,λ_ _=>rfl,Fz.le_refl Φ,h⟩
theorem After.of_more{w0:World}{Φ Φ1:Fz}{β β1:Spots}{a:Act}{w:World}{e:Exit}(hb:∀i,i<m->β1 i=β i)(hf:Φ.le Φ1)(h:After w0 Φ1 m β1 Q e a w):After w0 Φ m β Q e a w:=by obtain⟨o,env,H,n',Φ',β',h1,h2,h3,h4,h5,h6⟩:=h;exact⟨o,env,H,n',Φ',β',h1,h2,h3,λi hi=>(h4 i hi).trans (hb i hi),hf.trans h5,h6⟩
theorem Aw.skip(h:Q .normal env H n):Aw P m .skip Q env H n:=by
 intro c hc w0 Φ β a w hm hR;cases c<;>simp only[eN,w7.injEq,reduceCtorEq]at hc
 case skip=>exact wp_skip (After.of (o:= .normal) rfl h hm hR)
 case region=>rcases iN hc with⟨_,_,e⟩|⟨_,_,e⟩|⟨_,_,e⟩|⟨_,e⟩<;>cases e
 case seq=>split at hc<;>simp at hc
 case cond=>split at hc<;>simp at hc
 all_goals simp at hc
theorem Aw.exit{id:Nat}(h:Q (.exit id) env H n):Aw P m (.exit id) Q env H n:=by
 intro c hc w0 Φ β a w hm hR;cases c<;>simp only[eN,w7.injEq,reduceCtorEq]at hc
 case exit=>cases hc;exact wp_exit (After.of (o:= .exit id) rfl h hm hR)
 case region=>rcases iN hc with⟨_,_,e⟩|⟨_,_,e⟩|⟨_,_,e⟩|⟨_,e⟩<;>cases e
 case seq=>split at hc<;>simp at hc
 case cond=>split at hc<;>simp at hc
 all_goals simp at hc
theorem Aw.ret(h:Q .ret env H n):Aw P m .ret Q env H n:=by
 intro c hc w0 Φ β a w hm hR;cases c<;>simp only[eN,w7.injEq,reduceCtorEq]at hc
 case ret=>exact wp_ret (After.of (o:= .ret) rfl h hm hR)
 case region=>rcases iN hc with⟨_,_,e⟩|⟨_,_,e⟩|⟨_,_,e⟩|⟨_,e⟩<;>cases e
 case seq=>split at hc<;>simp at hc
 case cond=>split at hc<;>simp at hc
 all_goals simp at hc
def Post.then(P:Program)(m:Nat)(b:LCode)(Q:Post):Post
 | .normal=>Aw P m b Q
 |e=>Q e
theorem Aw.seq{x y:LCode}(h:Aw P m x (Post.then P m y Q) env H n):Aw P m (.seq x y) Q env H n:=by
 intro c hc w0 Φ β a w hm hR;cases c<;>simp only[eN,w7.injEq,reduceCtorEq]at hc
 case seq cx cy=>
  split at hc
  · rename_i h1 h2
    cases hc;refine wp_seq (wp_mono (h cx h1 w0 Φ β a w hm hR) λe a' w' hq=>?_);obtain⟨o,env',H',n',Φ',β',g1,g2,g3,g4,g5,g6⟩:=hq;cases e<;>simp only[aMm,w7.injEq,reduceCtorEq]at g1<;>subst g1
    case normal=>exact wp_mono (g2 cy h2 w0 Φ' β' a' w' g3 g6) λe a2 w2 h3=>h3.of_more g4 g5
    case exit i=>exact⟨_,env',H',n',Φ',β',rfl,g2,g3,g4,g5,g6⟩
    case ret=>exact⟨_,env',H',n',Φ',β',rfl,g2,g3,g4,g5,g6⟩
  {cases hc}
 case region=>rcases iN hc with⟨_,_,e⟩|⟨_,_,e⟩|⟨_,_,e⟩|⟨_,e⟩<;>cases e
 case cond=>split at hc<;>simp at hc
 all_goals simp at hc
theorem Aw.cond{c:Opd}{x y:LCode}{t:Bool}(hc:c.val env= .bool t)(h1:t=true->Aw P m x Q env H n)(h2:t=false->Aw P m y Q env H n):Aw P m (.cond c x y) Q env H n:=by
 intro cc hcc w0 Φ β a w hm hR;cases cc<;>simp only[eN,w7.injEq,reduceCtorEq]at hcc
 case cond co cx cy=>split at hcc;{rename_i g1 g2 g3;cases hcc;have hv:=aK hR.env g1;rw[hc]at hv;simp only[RV]at hv;exact wp_cond_split hv (λe=>h1 e cx g2 w0 Φ β a w hm hR) (λe=>h2 e cy g3 w0 Φ β a w hm hR)};{cases hcc}
 case region=>rcases iN hcc with⟨_,_,e⟩|⟨_,_,e⟩|⟨_,_,e⟩|⟨_,e⟩<;>cases e
 case seq=>split at hcc<;>simp at hcc
 all_goals simp at hcc
def Post.inBlock(id:Nat)(Q:Post):Post
 | .exit i=>if i=id then Q .normal else Q (.exit i)
 |e=>Q e
theorem Aw.block{id:Nat}{x:LCode}(h:Aw P m x (Post.inBlock id Q) env H n):Aw P m (.block id x) Q env H n:=by
 intro cc hcc w0 Φ β a w hm hR;cases cc<;>simp only[eN,w7.injEq,reduceCtorEq]at hcc
 case block id' cx=>
  obtain⟨lx,g1,g2⟩:=w9.1 hcc;cases g2;refine wp_block (wp_mono (h cx g1 w0 Φ β a w hm hR) λe a' w' hq=>?_);obtain⟨o,env',H',n',Φ',β',g1,g2,g3,g4,g5,g6⟩:=hq;cases e<;>simp only[aMm,w7.injEq,reduceCtorEq]at g1<;>subst g1
  case normal=>exact⟨.normal,env',H',n',Φ',β',rfl,g2,g3,g4,g5,g6⟩
  case exit i=>simp only[Exit.inBlock];simp only[Post.inBlock]at g2;split;{rename_i e;rw[if_pos e]at g2;exact⟨.normal,env',H',n',Φ',β',rfl,g2,g3,g4,g5,g6⟩};{rename_i e;rw[if_neg e]at g2;exact⟨.exit i,env',H',n',Φ',β',rfl,g2,g3,g4,g5,g6⟩}
  case ret=>exact⟨.ret,env',H',n',Φ',β',rfl,g2,g3,g4,g5,g6⟩
 case region=>rcases iN hcc with⟨_,_,e⟩|⟨_,_,e⟩|⟨_,_,e⟩|⟨_,e⟩<;>cases e
 case seq=>split at hcc<;>simp at hcc
 case cond=>split at hcc<;>simp at hcc
 all_goals simp at hcc
theorem Aw.reg{ops:List LOper}(h:eX P (Q .normal) ops env H n):Aw P m (.reg false ops) Q env H n:=by
 intro cc hcc w0 Φ β a w hm hR;cases cc<;>simp only[eN,w7.injEq,reduceCtorEq]at hcc
 case region id os draw=>
  unfold oZ at hcc;split at hcc
  · rename_i los g1
    split at hcc;{rename_i hd;subst hd;cases hcc;refine wp_region_list ?_;have:=aBr (ops:=os.toList) os.toList ops Φ n β env H a w g1 hR h (Q:=After w0 Φ m β Q) λenv' H' n' Φ' β' a' w' k1 k2 k3 k4 k5=>⟨.normal,env',H',n',Φ',β',rfl,k1,qQQ hm k2,λi hi=>k3 i (o7 hi hm),k4,k5⟩;simpa using this}
    · repeat' (split at hcc)
      all_goals cases hcc
  {cases hcc}
 case seq=>split at hcc<;>simp at hcc
 case cond=>split at hcc<;>simp at hcc
 all_goals simp at hcc
theorem Aw.regq{ops:List LOper}(h:xqs P H n (λenv'=>Q .normal env' H n) ops env):Aw P m (.reg true ops) Q env H n:=by
 intro cc hcc w0 Φ β a w hm hR;cases cc<;>simp only[eN,w7.injEq,reduceCtorEq]at hcc
 case region id os draw=>have key:∀los,bX P os.toList os.toList=some los->los=ops->draw=true->¬P.follows .mixedOrders=false->Region.lexB .any os=true->(Code.region id os draw).wp P (After w0 Φ m β Q) a w:=(by intro los g1 e1 e2 hmo hB;subst e1;subst e2;refine wp_region_quiet (C:=λw'=>Below w.heap.size w w') (by simpa using hmo) hB (Below.drew (Below.refl _ _)) ?_;have:=aXw (ops:=os.toList) (Q:=λa'=>∀w',Below w.heap.size w w'->After w0 Φ m β Q .normal a' w') os.toList los env a g1 hR h λenv' a' k1 k2 w' hw'=>After.of (o:= .normal) rfl k1 hm (k2.later hw');simpa using this);unfold oZ at hcc;split at hcc;{rename_i los g1;split at hcc;{cases hcc};{rename_i hd;obtain rfl:draw=true:=(by cases draw<;>simp_all);split at hcc;{cases hcc};{rename_i hmo;split at hcc;{cases hcc};{split at hcc;{rename_i hB;cases hcc;exact key _ g1 rfl rfl hmo hB.1};{split at hcc;{cases hcc};{split at hcc;{cases hcc};{split at hcc;{rename_i hB;cases hcc;exact key _ g1 rfl rfl hmo hB};{cases hcc}}}}}}}};{cases hcc}
 case seq=>split at hcc<;>simp at hcc
 case cond=>split at hcc<;>simp at hcc
 all_goals simp at hcc
theorem Aw.regt{head tail:List LOper}(h:xqs P H n (λenv'=>eX P (Q .normal) tail env' H n) head env):Aw P m (.regt head tail) Q env H n:=by
 intro cc hcc w0 Φ β a w hm hR;cases cc<;>simp only[eN,w7.injEq,reduceCtorEq]at hcc
 case region id os draw=>
  unfold oZ at hcc;split at hcc
  · rename_i los g1
    split at hcc;{cases hcc}
    · rename_i hd
      obtain rfl:draw=true:=(by cases draw<;>simp_all);split at hcc;{cases hcc}
      · rename_i hmo
        split at hcc;{rename_i hB;cases hcc;obtain⟨t1,t2⟩:=aAc (os.size-1) os.toList los g1;obtain⟨l,rfl⟩:∃l:List Oper,os=l.toArray:=⟨os.toList,by simp⟩;have hR':Rel w0 Φ n β env H a {w with drawn:=w.drawn+1}:=hR.later (Below.drew (Below.refl _ _));refine wp_region_still_tail (l.toArray.size-1) (by simpa using hmo) hB.2.1 ?_;refine aYl (l.take (l.toArray.size-1)) _ env a t1 hB.2.2 hR' h λenv' a' k1 k2=>?_;exact aBr (l.drop (l.toArray.size-1)) _ Φ n β env' H a' _ t2 k2 k1 (Q:=After w0 Φ m β Q) λenv' H' n' Φ' β' a' w' k1 k2 k3 k4 k5=>⟨.normal,env',H',n',Φ',β',rfl,k1,qQQ hm k2,λi hi=>k3 i (o7 hi hm),k4,k5⟩}
        · repeat' (split at hcc)
          all_goals cases hcc
  {cases hcc}
 case seq=>split at hcc<;>simp at hcc
 case cond=>split at hcc<;>simp at hcc
 all_goals simp at hcc
end
end Go.Proofs.YtcgggihjcelmhaaGreat
