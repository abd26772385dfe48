/- The plain functions: what they answer. -/
import Derived.Test.YtkjabgefacfpfaaPHI
import Derived.Test.YtkjabgefacfpfaaZY
import Derived.Test.YtkjabgefacfpfaaWD1
import Derived.Laws.Bits64
import Derived.Test.YtkjabgefacfpfaaWG1
import Derived.Test.YtkjabgefacfpfaaWU1
import Derived.Test.YtkjabgefacfpfaaWGH1
import Derived.Test.YtkjabgefacfpfaaWGF1
import Derived.Test.YtkjabgefacfpfaaWHI1
import Derived.Test.YtkjabgefacfpfaaWFSH1
import Derived.Test.YtkjabgefacfpfaaWFZH1
namespace Go.Proofs.Ytkjabgefacfpfaa
set_option linter.all false
theorem bGe{T:Type}{xs ys:List T}{o k:Nat}(h:ys.length=8)(hk:8<=k):over xs o k ys=over xs o 8 ys:=by simp only[over,h];rw[Nat.min_eq_right hk,Nat.min_self]
theorem bGl{T:Type}[Inhabited T]{xs:List T}{u:Nat}:(xs.drop u).getD 0 default=xs.getD u default:=by simp[List.getD]
theorem bBv{T:Type}{xs:List T}{u n:Nat}(h:n=(xs.drop u).length):List.take (Int.toNat (n:Int)-Int.toNat 1) (List.drop (Int.toNat 1) (xs.drop u))=xs.drop (u+1):=by rw[show Int.toNat 1=1 from rfl,List.drop_drop,Int.toNat_natCast];apply List.take_of_length_le;rw[h];simp;omega
theorem aPh{mem:List Int}{p:Nat}(h:p<8):List.take (Int.toNat (w64 ((w64 ((p:Int)+1))*8))-Int.toNat (w64 ((p:Int)*8))) (List.drop (Int.toNat (w64 ((p:Int)*8))) mem)=M.page mem p:=by rw[aC (z:=(p:Int)+1) (by omega) (by omega),aC (z:=((p:Int)+1)*8) (by omega) (by omega),aC (z:=(p:Int)*8) (by omega) (by omega)];rw[show Int.toNat (((p:Int)+1)*8)-Int.toNat ((p:Int)*8)=8 by omega,show Int.toNat ((p:Int)*8)=p*8 by omega];rfl
theorem bMv{h:DHost}(hk:HOk h):iter (fA h) (-1,2)=some (.ret (.go (M.gone h.Guests))):=by
 have h3:=hk.three
 have st:∀(i:Nat) (a:Int),i<3->fA h (a,(i:Int))=some (.next (bif (h.Guests.getD i default).Live then a else(i:Int),(i:Int)-1)):=λi a hi=>by
  simp only[fA,Int.toNat_natCast];rw[decide_eq_true (p:=(0:Int)<=(i:Int)) (by omega),cond_true,aD ⟨by omega,by omega⟩];cases(h.Guests.getD i default).Live
  all_goals
   simp only[Bool.not_true,Bool.not_false,cond_true,cond_false,Option.bind_some,JO.run,uF];rw[aC (by omega) (by omega)]
 have sn:∀a:Int,fA h (a,-1)=some (.ret (.go a)):=λa=>by simp only[fA];rfl
 rw[show(2:Int)=((2:Nat):Int)from rfl,cB,st 2 _ (by omega)];simp only;rw[show((2:Nat):Int)-1=((1:Nat):Int)from rfl,cB,st 1 _ (by omega)];simp only;rw[show((1:Nat):Int)-1=((0:Nat):Int)from rfl,cB,st 0 _ (by omega)];simp only;rw[show((0:Nat):Int)-1=-1 from rfl,cB,sn];unfold M.gone;cases(h.Guests.getD 0 default).Live<;>cases(h.Guests.getD 1 default).Live<;>cases(h.Guests.getD 2 default).Live<;>rfl
theorem bEc{b:DBare}{s:List Int×List Int×List DSlot×Int}{p:Nat}(hp:p<8)(hs:s.2.2.2=(p:Int))(hm:b.Mem.length=64):iter (gT b s) (true,0)=some (.ret (.go (M.zeros (M.page b.Mem p)))):=by
 have hl:=bHs (xs:=b.Mem) (p:=p) (by omega)
 have key:=iB (n:=8) (step:=gT b s) (λk=>((List.range k).all λj=>decide ((M.page b.Mem p).getD j default=0),(k:Int))) (λ_=>true) (JO.go (M.zeros (M.page b.Mem p))) (.go true) (λk hk _=>by
  simp only[gT,hs,aPh hp,Int.toNat_natCast];rw[decide_eq_true (p:=(k:Int)<8) (by omega),cond_true];have er:((List.range (k+1)).all λj=>decide ((M.page b.Mem p).getD j default=0))=(((List.range k).all λj=>decide ((M.page b.Mem p).getD j default=0))&&decide ((M.page b.Mem p).getD k default=0)):=(by rw[List.range_succ,List.all_append];simp);rw[er];cases((List.range k).all λj=>decide ((M.page b.Mem p).getD j default=0))with
  |true=>rw[cond_true,aD ⟨by omega,by omega⟩];simp only[Option.bind_some,JO.run,oB,Bool.true_and,cond_true];rw[aC (by omega) (by omega)];rfl
  |false=>simp only[cond_false,Option.bind_some,JO.run,oB,Bool.false_and,cond_true];rw[aC (by omega) (by omega)];rfl) (λ_=>by
  simp only[gT];rfl)
 rw[show(List.range 8).all (λ_=>true)=true by simp,cond_true]at key;exact key
theorem bAy{b:DBare}{ws:List Int}{ss:List DSlot}{g:Int}(hg:0<=g)(hw:ws.length=160)(hm:b.Mem.length=64):
 iter (fL b g) (ws,M.free ss,[],0)=some (.ret (bif decide (M.used b.Mem 8<=(M.free ss).length)then .go (M.wordsFor b.Mem (M.free ss) ws 8,M.slotsFor b.Mem (M.free ss) 8)else .out (⟨[],[]⟩,-1,false))):=by
 have hfl:=aUh (ss:=ss)
 have key:=iB (n:=8) (step:=fL b g) (λp=>(M.wordsFor b.Mem (M.free ss) ws p,(M.free ss).drop (M.used b.Mem p),M.slotsFor b.Mem (M.free ss) p,(p:Int))) (λp=>M.zeros (M.page b.Mem p)||decide (M.used b.Mem p<(M.free ss).length))
  (JO.go (M.wordsFor b.Mem (M.free ss) ws 8,M.slotsFor b.Mem (M.free ss) 8)) (.out (⟨[],[]⟩,-1,false)) (λp hp ho=>by
  have hu:M.used b.Mem p<=(M.free ss).length:=(by have:((List.range p).all λp=>M.zeros (M.page b.Mem p)||decide (M.used b.Mem p<(M.free ss).length))=true:=(by simp only[List.all_eq_true,List.mem_range];exact ho);rw[aNf,decide_eq_true_eq]at this;exact this);have hlen:=yL (mem:=b.Mem) (ss:=ss) hw (p:=p) (by omega) hu;have hpl:=bHs (xs:=b.Mem) (p:=p) (by omega);have hsl:(M.slotsFor b.Mem (M.free ss) p).length=p:=(by simp[M.slotsFor]);have es:M.slotsFor b.Mem (M.free ss) (p+1)=M.slotsFor b.Mem (M.free ss) p++[M.slotFor b.Mem (M.free ss) p]:=(by simp[M.slotsFor,List.range_succ]);have ew:M.wordsFor b.Mem (M.free ss) ws (p+1)=(bif M.zeros (M.page b.Mem p)then M.wordsFor b.Mem (M.free ss) ws p else over (M.wordsFor b.Mem (M.free ss) ws p) (((M.free ss).getD (M.used b.Mem p) default).toNat*8) 8 (M.page b.Mem p)):=rfl;have eu:M.used b.Mem (p+1)=M.used b.Mem p+(bif M.zeros (M.page b.Mem p)then 0 else 1):=rfl;have b1:w64 ((p:Int)*8)=(p:Int)*8:=aC (by omega) (by omega);have b2:w64 ((w64 ((p:Int)+1))*8)=((p:Int)+1)*8:=(by rw[aC (z:=(p:Int)+1) (by omega) (by omega),aC (by omega) (by omega)]);simp only[fL];rw[decide_eq_true (p:=(p:Int)<8) (by omega),cond_true,decide_eq_true hg,cond_true,aD ⟨by omega,by omega,by omega⟩,bEc hp rfl hm];simp only[Option.bind_some,LO.val,JO.run,uC,aPh hp];cases hz:M.zeros (M.page b.Mem p)with
  |true=>have:(⟨-1,false,false⟩:DSlot)=M.slotFor b.Mem (M.free ss) p:=(by unfold M.slotFor;rw[hz];rfl);rw[hz,cond_true]at ew eu;rw[cond_true,aD ⟨by simp;omega,by simp;omega⟩];simp only[Option.bind_some,JO.run,pK,Bool.true_or,cond_true];rw[aC (by omega) (by omega),this,<-es,ew,eu];rfl
  |false=>
   have:(⟨(M.free ss).getD (M.used b.Mem p) default,true,false⟩:DSlot)=M.slotFor b.Mem (M.free ss) p:=(by unfold M.slotFor;rw[hz];rfl);rw[hz,cond_false]at ew eu;rw[cond_false,Bool.false_or];by_cases e:M.used b.Mem p<(M.free ss).length;{have hr:=aMm (ss:=ss) (i:=M.used b.Mem p) e;have hdl:((M.free ss).drop (M.used b.Mem p)).length=(M.free ss).length-M.used b.Mem p:=(by simp);rw[decide_eq_false (p:=(((List.drop (M.used b.Mem p) (M.free ss)).length:Nat):Int)=0) (by omega),cond_false,show Int.toNat (0:Int)=0 from rfl,bGl];rw[aC (z:=(M.free ss).getD (M.used b.Mem p) default*8) (by omega) (by omega),aD ⟨by omega,by omega⟩,aD ⟨by omega,by omega,by omega⟩,aD ⟨by omega,by omega⟩,aD ⟨by simp;omega,by simp;omega⟩,aD ⟨by omega,by omega,by omega⟩];simp only[Option.bind_some,JO.run,pK];rw[aC (by omega) (by omega),this,<-es,bBv rfl,bGe hpl (by omega),decide_eq_true e,ew,eu];rw[show Int.toNat ((M.free ss).getD (M.used b.Mem p) default*8)=((M.free ss).getD (M.used b.Mem p) default).toNat*8 by omega];rfl}
   · rw[decide_eq_false e,decide_eq_true (p:=(((List.drop (M.used b.Mem p) (M.free ss)).length:Nat):Int)=0) (by simp;omega)];rfl) (λ_=>by
  simp only[fL];rfl)
 rw[aNf]at key;exact key
theorem bAc{h:DHost}{b:DBare}(hs:SmallH h)(hb:SmallB b):oS h b=some (M.hostBoot h b):=by unfold oS M.hostBoot;rw[zK hs,Option.bind_some];(cases hh:M.hostOk h with|false=>rfl|true=>have hk:=dJ.1 hh;have h3:=hk.three;rw[Bool.not_true,cond_false,bGx hb,Option.bind_some,Bool.true_and];(cases hbk:M.bareOk b with|false=>rfl|true=>have hm:=bEr hbk;have hr:=bAa h.Guests;have:=hb.i;have:=hb.o;rw[Bool.not_true,cond_false,aRs hs hk.all,Option.bind_some,bMv hk,Bool.true_and];simp only[Option.bind_some,LO.val,JO.run,vU];have ef:M.hostFree h=M.free (M.slots h.Guests):=(by unfold M.hostFree;rw[hh];rfl);rw[aMv hs,Option.bind_some,ef,bDw hb.c,Option.bind_some,aD ⟨by omega,by omega⟩,aD ⟨by omega,by omega⟩];by_cases e:M.gone h.Guests=-1;{rw[decide_eq_true e,e];rw[show iter (fL b (-1)) (h.Words,M.free (M.slots h.Guests),[],0)=some (.ret (.go (h.Words,[]))) by rw[cB];rfl];rfl};{rw[bAy (by omega) hk.len hm,decide_eq_false e,Bool.not_false,Bool.true_and];(cases decide (M.used b.Mem 8<=(M.free (M.slots h.Guests)).length)with|false=>rfl|true=>simp only[cond_true,Option.bind_some,LO.val,JO.run,vN];rw[decide_eq_false (by omega),cond_false,aD ⟨by omega,by omega⟩];rfl)}))
end Go.Proofs.Ytkjabgefacfpfaa
namespace Go.Proofs.Ytkjabgefacfpfaa
set_option linter.all false
theorem aIg{a b:Int}(ha:0<=a)(hb:0<b):0<=Int.tmod a b/\Int.tmod a b<b:=by rw[Int.tmod_eq_emod_of_nonneg ha];exact⟨Int.emod_nonneg _ (by omega),Int.emod_lt_of_pos _ hb⟩
theorem bJx:kB=some true:=rfl
def enc(e:DEntry):Int:=8*e.Page+(bif e.There then 1 else 0)+(bif e.Write then 2 else 0)+(bif e.User then 4 else 0)
theorem bBl{p:Int}(h0:0<=p)(h7:p<=7):p=0\/p=1\/p=2\/p=3\/p=4\/p=5\/p=6\/p=7:=by omega
theorem aWc{e:DEntry}(h0:0<=e.Page)(h7:e.Page<=7):dO e=some (enc e):=by obtain⟨t,w,u,p⟩:=e;rcases bBl h0 h7 with h|h|h|h|h|h|h|h<;>simp only at h<;>subst h<;>cases t<;>cases w<;>cases u<;>rfl
theorem aLs{e:DEntry}(h:¬(0<=e.Page/\e.Page<=7)):dO e=some (-1):=by unfold dO cS;rw[show∀b y:Bool,(cond b (some y) (some false))=some (b&&y)from λb y=>by cases b<;>rfl];have e1:(decide (0<=e.Page)&&decide (e.Page<=7))=false:=(by rw[Bool.eq_false_iff];simp;omega);rw[e1];rfl
end Go.Proofs.Ytkjabgefacfpfaa
namespace Go.Proofs.Ytkjabgefacfpfaa
set_option linter.all false
theorem aVy(a b:Nat)(ha:a<9223372036854775808)(hb:b<9223372036854775808):bits .xor .i64 (a:Int) (b:Int)=((a^^^b:Nat):Int):=by have hx:a^^^b<2^63:=Nat.xor_lt_two_pow (by omega) (by omega);have h1:(BitVec.ofInt 64 (a:Int)).toNat=a:=(by rw[BitVec.ofInt_natCast,BitVec.toNat_ofNat];exact Nat.mod_eq_of_lt (by omega));have h2:(BitVec.ofInt 64 (b:Int)).toNat=b:=(by rw[BitVec.ofInt_natCast,BitVec.toNat_ofNat];exact Nat.mod_eq_of_lt (by omega));show IntKind.i64.wrap ((BitVec.ofInt 64 (a:Int)^^^BitVec.ofInt 64 (b:Int)).toNat:Int)=_;rw[BitVec.toNat_xor,h1,h2];exact aBr (by omega) (by omega)
theorem bKz{a b:Int}(a0:0<=a)(a1:a<=9223372036854775807)(b0:0<=b)(b1:b<=9223372036854775807):0<=bits .xor .i64 a b:=by obtain⟨x,rfl⟩:=Int.eq_ofNat_of_zero_le a0;obtain⟨y,rfl⟩:=Int.eq_ofNat_of_zero_le b0;rw[aVy x y (by omega) (by omega)];omega
theorem aOu{b:List Int}(hb:∀x∈b,0<=x/\x<=255)(i:Nat):0<=b.getD i default/\b.getD i default<=255:=by by_cases h:i<b.length;{rw[List.getD,List.getElem?_eq_getElem h];exact hb _ (List.getElem_mem h)};{rw[List.getD,List.getElem?_eq_none (by omega)];exact⟨by decide,by decide⟩}
theorem bIs{r:Dl20Rd}{n:Int}(hn:1<=n)(h0:0<=r.p)(h1:r.p<=1000000)(hb:∀x∈r.b,0<=x/\x<=255):∃v,aA r n=some (⟨r.b,r.p+1⟩,v)/\0<=v/\v<n:=by
 unfold aA;have e1:w64 (r.p+1)=r.p+1:=aC (by omega) (by omega);rw[e1,show r.p+1-1=r.p by omega,aC (z:=r.p) (by omega) (by omega),decide_eq_false (show¬n<1 by omega),cond_false];by_cases hl:((r.b.length:Nat):Int)=0;{rw[decide_eq_true hl];exact⟨_,rfl,by omega,by omega⟩}
 · rw[decide_eq_false hl,cond_false]
   have hp:(0:Int)<((r.b.length:Nat):Int):=(by omega);have hn0:n≠0:=(by omega);by_cases hk:r.p<((r.b.length:Nat):Int)
   · rw[decide_eq_true hk,cond_true,aD ⟨h0,hk⟩,aD hn0]
     have g:=aOu hb r.p.toNat
     rw[aBr (by omega) (by omega)];exact⟨_,rfl,aIg g.1 (by omega)⟩
   {have e2:w64 (w64 (r.p*7)+3)=r.p*7+3:=(by rw[aC (z:=r.p*7) (by omega) (by omega),aC (by omega) (by omega)]);rw[decide_eq_false hk,cond_false,e2,aD hl,aD (aIg h0 hp),aD hl,aD (aIg (by omega) hp),aD hl,aD hn0];have g1:=aOu hb (Int.toNat (Int.tmod r.p ((r.b.length:Nat):Int)));have g2:=aOu hb (Int.toNat (Int.tmod (r.p*7+3) ((r.b.length:Nat):Int)));generalize r.b.getD (Int.toNat (Int.tmod r.p ((r.b.length:Nat):Int))) default=X at g1 ⊢;generalize r.b.getD (Int.toNat (Int.tmod (r.p*7+3) ((r.b.length:Nat):Int))) default=Y at g2 ⊢;have q:Int.tdiv r.p ((r.b.length:Nat):Int)=r.p/((r.b.length:Nat):Int):=Int.tdiv_eq_ediv_of_nonneg h0;have q0:0<=r.p/((r.b.length:Nat):Int):=Int.ediv_nonneg h0 (by omega);have q1:r.p/((r.b.length:Nat):Int)<=r.p:=Int.ediv_le_self _ h0;rw[q];generalize r.p/((r.b.length:Nat):Int)=Q at q0 q1 ⊢;have k1:IntKind.wrap .i64 X=X:=aBr (by omega) (by omega);have k2:IntKind.wrap .i64 Y=Y:=aBr (by omega) (by omega);have k3:w64 (w64 (w64 (w64 (X*131)+w64 (Y*1117))+w64 (r.p*29))+w64 (w64 Q*53))=X*131+Y*1117+r.p*29+Q*53:=(by rw[aC (z:=X*131) (by omega) (by omega),aC (z:=Y*1117) (by omega) (by omega),aC (z:=X*131+Y*1117) (by omega) (by omega),aC (z:=r.p*29) (by omega) (by omega),aC (z:=X*131+Y*1117+r.p*29) (by omega) (by omega),aC (z:=Q) (by omega) (by omega),aC (z:=Q*53) (by omega) (by omega),aC (by omega) (by omega)]);rw[k1,k2,k3];have a0:0<=X*131+Y*1117+r.p*29+Q*53:=(by omega);have a1:X*131+Y*1117+r.p*29+Q*53<=9223372036854775807:=(by omega);generalize X*131+Y*1117+r.p*29+Q*53=A at a0 a1 ⊢;have d:Int.tdiv A 64=A/64:=Int.tdiv_eq_ediv_of_nonneg a0;rw[d,aC (z:=A/64) (by omega) (by omega)];exact⟨_,rfl,aIg (bKz a0 a1 (by omega) (by omega)) (by omega)⟩}
structure Rdr (m : Int) (r : Dl20Rd) : Prop where
 b:∀x∈r.b,0<=x/\x<=255
 p0:0<=r.p
 p1:r.p<=m
theorem Rdr.up{m n:Int}{r:Dl20Rd}(h:Rdr m r)(hn:m<=n):Rdr n r:=⟨h.b,h.p0,Int.le_trans h.p1 hn⟩
theorem aT{m n:Int}{r:Dl20Rd}(R:Rdr m r)(hm:m<=1000000)(hn:1<=n):Ex (aA r n) (λv=>Rdr (m+1) v.1/\0<=v.2/\v.2<n):=by obtain⟨b,p0,p1⟩:=R;obtain⟨v,h1,h2,h3⟩:=bIs hn p0 (by omega) b;exact⟨_,h1,⟨b,by show 0<=r.p+1;omega,by show r.p+1<=m+1;omega⟩,h2,h3⟩
theorem aMx{m:Int}{r:Dl20Rd}(R:Rdr m r)(hm:m<=999999):Ex (cX r) (λv=>Rdr (m+2) v.1/\0<=v.2/\v.2<=4095):=by unfold cX;refine Ex.bind (aT R (by omega) (by omega)) λv1 ⟨R1,a1,b1⟩=>?_;refine Ex.bind (aT R1 (by omega) (by omega)) λv2 ⟨R2,a2,b2⟩=>?_;rw[aC (z:=v1.2*256) (by omega) (by omega),aC (by omega) (by omega)];exact Ex.ret ⟨R2.up (by omega),by show 0<=v1.2*256+v2.2;omega,by show v1.2*256+v2.2<=4095;omega⟩
theorem bEy{xs:List Int}(h:∀x∈xs,0<=x/\x<=255):Ex (jU xs) (λr=>Rdr 0 r):=by unfold jU;refine Ex.join (P:=λs=>∀x∈s,0<=x/\x<=255) ?_ λs hs=>Ex.ret ⟨hs,Int.le_refl _,Int.le_refl _⟩;refine Ex.cond (λhc=>?_) λhc=>Ex.ret ⟨_,rfl,h⟩;have:=of_decide_eq_true hc;exact Ex.grd ⟨by omega,by omega,by omega⟩ (Ex.ret ⟨_,rfl,λx hx=>h x (List.mem_of_mem_drop (List.mem_of_mem_take hx))⟩)
end Go.Proofs.Ytkjabgefacfpfaa
namespace Go.Proofs.Ytkjabgefacfpfaa
set_option linter.all false
theorem bBk{m n:Int}{r:Dl20Rd}(R:Rdr m r)(hm:m<=1000000):Ex (cI r n) (λv=>Rdr (m+1) v.1):=by unfold cI;refine Ex.cond (λh=>?_) λ_=>Ex.ret (R.up (by omega));have:=of_decide_eq_true h;exact Ex.bind (aT R hm (by omega)) λv1 ⟨R1,_,_⟩=>Ex.ret R1
theorem bCq{m n:Int}{r:Dl20Rd}(R:Rdr m r)(hm:m<=1000000):Ex (cI r n) (λv=>Rdr (m+1) v.1/\(n<=0->v.2=false)):=by unfold cI;refine Ex.cond (λh=>?_) λ_=>Ex.ret ⟨R.up (by omega),λ_=>rfl⟩;have:=of_decide_eq_true h;exact Ex.bind (aT R hm (by omega)) λv1 ⟨R1,_,_⟩=>Ex.ret ⟨R1,λ_=>by omega⟩
theorem aJh(e:DEntry):Ex (dO e) (λ_=>True):=by by_cases h:0<=e.Page/\e.Page<=7;{rw[aWc h.1 h.2];exact Ex.ret trivial};{rw[aLs h];exact Ex.ret trivial}
theorem bHi{m:Int}(hm:m<=990000)(h0:0<=m)(s:List Int×Int×List Int×Int)(hs:0<=s.2.2.2/\s.2.2.2<=64/\Rdr (m+8*s.2.2.2) ⟨s.1,s.2.1⟩/\(s.2.2.1.length:Int)=s.2.2.2):
 Ex (sF s) (λo=>(∃s',o= .next s'/\(0<=s'.2.2.2/\s'.2.2.2<=64/\Rdr (m+8*s'.2.2.2) ⟨s'.1,s'.2.1⟩/\(s'.2.2.1.length:Int)=s'.2.2.2)/\64-s'.2.2.2.toNat<64-s.2.2.2.toNat)\/∃t,o= .ret (.go t)/\(Rdr (m+512) ⟨t.1,t.2.1⟩/\t.2.2.length=64)):=by
 obtain⟨b,p,mem,k⟩:=s;obtain⟨k0,k1,R,hl⟩:=hs;simp only at k0 k1 R hl;unfold sF;refine Ex.cond (λhk=>?_) λhk=>?_
 · have hk:k<64:=of_decide_eq_true hk
   refine Ex.join (P:=λs8:List Int×Int×Int=>Rdr (m+8*k+3) ⟨s8.1,s8.2.1⟩) ?_ λs8 R8=>?_;{refine Ex.bind (aT R (by omega) (by omega)) λv1 ⟨R1,a1,b1⟩=>?_;refine Ex.cond (λ_=>?_) λ_=>?_;{exact Ex.bind (aMx R1 (by omega)) λv2 ⟨R2,_,_⟩=>Ex.ret ⟨_,rfl,R2.up (by omega)⟩};{exact Ex.ret ⟨_,rfl,R1.up (by omega)⟩}}
   · unfold zC
     refine Ex.join (P:=λs9:List Int×Int×Int=>Rdr (m+8*k+7) ⟨s9.1,s9.2.1⟩) ?_ λs9 R9=>?_
     · have e:∀Q:JO (List Int×Int×Int) (LO (List Int×Int×List Int×Int) (JO (List Int×Int×List Int) (Dl20Rd×List Int)))->Prop,(∀v:Dl20Rd×Int,∀w,Rdr (m+8*k+7) v.1->Q (.go (v.1.b,v.1.p,w)))->Ex (Option.bind (aA (Dl20Rd.mk s8.1 s8.2.1) (5:Int)) λv10=>
        Option.bind (aA v10.1 (4:Int)) λv11=>
        Option.bind (aA v11.1 (3:Int)) λv12=>
        Option.bind (aA v12.1 (8:Int)) λv13=>
        Option.bind (dO (DEntry.mk (decide ((0:Int)<v10.2)) (decide ((0:Int)<v11.2)) (decide ((0:Int)<v12.2)) v13.2)) λv14=>
        some (.go (v13.1.b,v13.1.p,v14))) Q:=λQ hQ=>by
        refine Ex.bind (aT R8 (by omega) (by omega)) λv1 ⟨R1,a1,b1⟩=>?_;refine Ex.bind (aT R1 (by omega) (by omega)) λv2 ⟨R2,a2,b2⟩=>?_;refine Ex.bind (aT R2 (by omega) (by omega)) λv3 ⟨R3,a3,b3⟩=>?_;refine Ex.bind (aT R3 (by omega) (by omega)) λv4 ⟨R4,a4,b4⟩=>?_;refine Ex.bind (aJh _) λv5 _=>?_;exact Ex.ret (hQ v4 v5 (R4.up (by omega)))
       refine Ex.cond (λ_=>?_) λ_=>?_;{exact e _ λv w h=>⟨_,rfl,h⟩};{refine Ex.cond (λ_=>?_) λ_=>?_;{exact e _ λv w h=>⟨_,rfl,h⟩};{exact Ex.ret ⟨_,rfl,R8.up (by omega)⟩}}
     · unfold yO
       refine Ex.grd ⟨by simp only[List.length_cons,List.length_nil];omega,by simp only[List.length_cons,List.length_nil];omega⟩ (Ex.ret (.inl ⟨_,rfl,⟨?_,?_,?_,?_⟩,?_⟩));all_goals simp only[aC (z:=k+1) (by omega) (by omega),List.length_append,List.length_cons,List.length_nil]
       {omega};{omega};{exact R9.up (by omega)};{omega};{omega}
 {have hk:¬k<64:=of_decide_eq_false hk;exact Ex.ret (.inr ⟨_,rfl,R.up (by omega),by show mem.length=64;omega⟩)}
theorem bIa{m n:Int}{r:Dl20Rd}(R:Rdr m r)(h0:0<=m)(hm:m<=990000):Ex (nS r n) (λv=>Rdr (m+600) v.1/\v.2.length<=64/\(n<=0->v.2.length=64)):=by unfold nS;refine Ex.join (Ex.loopv (λs:List Int×Int×List Int×Int=>0<=s.2.2.2/\s.2.2.2<=64/\Rdr (m+8*s.2.2.2) ⟨s.1,s.2.1⟩/\(s.2.2.1.length:Int)=s.2.2.2) (λs=>64-s.2.2.2.toNat) (λt=>Rdr (m+512) ⟨t.1,t.2.1⟩/\t.2.2.length=64) ⟨by simp,by simp,R.up (by simp),by simp⟩ (bHi hm h0)) λs1 ⟨R1,hl⟩=>?_;unfold yZ;refine Ex.join (P:=λs2:List Int×Int×List Int=>Rdr (m+600) ⟨s2.1,s2.2.1⟩/\s2.2.2.length<=64/\(n<=0->s2.2.2.length=64)) ?_ λs2 h2=>Ex.ret h2;refine Ex.bind (bCq R1 (by omega)) λv3 ⟨R3,o3⟩=>?_;refine Ex.cond (λhv=>?_) λ_=>?_;{refine Ex.bind (aT R3 (by omega) (by omega)) λv4 ⟨R4,a4,b4⟩=>?_;refine Ex.cond (λ_=>?_) λ_=>?_;{exact Ex.grd ⟨by omega,by omega,by omega⟩ (Ex.ret ⟨_,rfl,R4.up (by omega),by rw[List.length_take];omega,λhn=>by rw[o3 hn]at hv;cases hv⟩)};{refine Ex.bind (aT R4 (by omega) (by omega)) λv5 ⟨R5,a5,b5⟩=>?_;refine Ex.bind (aT R5 (by omega) (by omega)) λv6 ⟨R6,a6,b6⟩=>?_;exact Ex.grd ⟨by omega,by omega⟩ (Ex.ret ⟨_,rfl,R6.up (by omega),by rw[List.length_set];omega,λhn=>by rw[o3 hn]at hv;cases hv⟩)}};{exact Ex.ret ⟨_,rfl,R3.up (by omega),by show s1.2.2.length<=64;omega,λ_=>hl⟩}
theorem aXi{Q:Bool->Prop}(h:Q true):Ex kB Q:=⟨_,bJx,h⟩
end Go.Proofs.Ytkjabgefacfpfaa
namespace Go.Proofs.Ytkjabgefacfpfaa
set_option linter.all false
theorem bCy{m:Int}(hm:m<=990000)(h0:0<=m)(s:List Int×Int×List Int×Int)(hs:0<=s.2.2.2/\s.2.2.2<=4/\Rdr (m+8*s.2.2.2) ⟨s.1,s.2.1⟩/\(s.2.2.1.length:Int)=s.2.2.2):
 Ex (pL s) (λo=>(∃s',o= .next s'/\(0<=s'.2.2.2/\s'.2.2.2<=4/\Rdr (m+8*s'.2.2.2) ⟨s'.1,s'.2.1⟩/\(s'.2.2.1.length:Int)=s'.2.2.2)/\4-s'.2.2.2.toNat<4-s.2.2.2.toNat)\/∃t,o= .ret (.go t)/\(Rdr (m+32) ⟨t.1,t.2.1⟩/\t.2.2.length=4)):=by
 obtain⟨b,p,rs,k⟩:=s;obtain⟨k0,k1,R,hl⟩:=hs;simp only at k0 k1 R hl;unfold pL;refine Ex.cond (λhk=>?_) λhk=>?_
 · have hk:k<4:=of_decide_eq_true hk
   refine Ex.bind (aT R (by omega) (by omega)) λv1 ⟨R1,a1,b1⟩=>?_;refine Ex.bind (aT R1 (by omega) (by omega)) λv2 ⟨R2,a2,b2⟩=>?_;refine Ex.bind (aMx R2 (by omega)) λv3 ⟨R3,a3,b3⟩=>?_;refine Ex.bind (aT R3 (by omega) (by omega)) λv4 ⟨R4,a4,b4⟩=>?_;refine Ex.grd ⟨a4,by simp only[List.length_cons,List.length_nil];omega⟩ ?_;refine Ex.grd ⟨by simp only[List.length_cons,List.length_nil];omega,by simp only[List.length_cons,List.length_nil];omega⟩ (Ex.ret (.inl ⟨_,rfl,⟨?_,?_,?_,?_⟩,?_⟩));all_goals simp only[aC (z:=k+1) (by omega) (by omega),List.length_append,List.length_cons,List.length_nil]
   {omega};{omega};{exact R4.up (by omega)};{omega};{omega}
 {have hk:¬k<4:=of_decide_eq_false hk;exact Ex.ret (.inr ⟨_,rfl,R.up (by omega),by show rs.length=4;omega⟩)}
theorem bDr{m n:Int}{r:Dl20Rd}(R:Rdr m r)(h0:0<=m)(hm:m<=980000):Ex (mN r n) (λv=>Rdr (m+60) v.1/\v.2.Regs.length<=4):=by unfold mN;refine Ex.bind (aT R (by omega) (by omega)) λv1 ⟨R1,a1,b1⟩=>?_;refine Ex.bind (aT R1 (by omega) (by omega)) λv2 ⟨R2,a2,b2⟩=>?_;refine Ex.grd ⟨a2,by simp only[List.length_cons,List.length_nil];omega⟩ ?_;refine Ex.bind (aT R2 (by omega) (by omega)) λv3 ⟨R3,a3,b3⟩=>?_;refine Ex.bind (aT R3 (by omega) (by omega)) λv4 ⟨R4,a4,b4⟩=>?_;refine Ex.bind (aT R4 (by omega) (by omega)) λv5 ⟨R5,a5,b5⟩=>?_;refine Ex.bind (aT R5 (by omega) (by omega)) λv6 ⟨R6,a6,b6⟩=>?_;refine Ex.bind (aT R6 (by omega) (by omega)) λv7 ⟨R7,a7,b7⟩=>?_;refine Ex.bind (aT R7 (by omega) (by omega)) λv8 ⟨R8,a8,b8⟩=>?_;refine Ex.bind (aT R8 (by omega) (by omega)) λv9 ⟨R9,a9,b9⟩=>?_;refine Ex.bind (aT R9 (by omega) (by omega)) λv10 ⟨R10,a10,b10⟩=>?_;refine Ex.bind (aT R10 (by omega) (by omega)) λv11 ⟨R11,a11,b11⟩=>?_;refine Ex.bind (aT R11 (by omega) (by omega)) λv12 ⟨R12,a12,b12⟩=>?_;refine Ex.bind (aT R12 (by omega) (by omega)) λv13 ⟨R13,a13,b13⟩=>?_;have R13:Rdr (m+13) v13.1:=R13.up (by omega);refine Ex.join (Ex.loopv (λs:List Int×Int×List Int×Int=>0<=s.2.2.2/\s.2.2.2<=4/\Rdr (m+13+8*s.2.2.2) ⟨s.1,s.2.1⟩/\(s.2.2.1.length:Int)=s.2.2.2) (λs=>4-s.2.2.2.toNat) (λt=>Rdr (m+13+32) ⟨t.1,t.2.1⟩/\t.2.2.length=4) ⟨by simp,by simp,R13.up (by simp),by simp⟩ (bCy (by omega) (by omega))) λs1 ⟨RL,hl⟩=>?_;unfold vX;refine Ex.join (P:=λs2:List Int×Int×List Int×Int×Int=>Rdr (m+60) ⟨s2.1,s2.2.1⟩/\s2.2.2.1.length<=4) ?_ λs2 h2=>Ex.ret h2;refine Ex.bind (bBk RL (by omega)) λv16 R16=>?_;have R16:Rdr (m+46) v16.1:=R16.up (by omega);refine Ex.cond (λ_=>?_) λ_=>?_;{refine Ex.bind (aT R16 (by omega) (by omega)) λv17 ⟨R17,a17,b17⟩=>?_;refine Ex.cond (λ_=>?_) λ_=>?_;{exact Ex.grd ⟨by omega,by omega,by omega⟩ (Ex.ret ⟨_,rfl,R17.up (by omega),by simp only[List.length_take];omega⟩)};{refine Ex.cond (λ_=>?_) λ_=>?_;{exact Ex.bind (aT R17 (by omega) (by omega)) λv18 ⟨R18,a18,b18⟩=>Ex.ret ⟨_,rfl,R18.up (by omega),by simp only;omega⟩};{refine Ex.cond (λ_=>?_) λ_=>?_;{exact Ex.bind (aT R17 (by omega) (by omega)) λv18 ⟨R18,a18,b18⟩=>Ex.ret ⟨_,rfl,R18.up (by omega),by simp only;omega⟩};{exact Ex.bind (aT R17 (by omega) (by omega)) λv18 ⟨R18,a18,b18⟩=>Ex.grd ⟨by omega,by omega⟩ (Ex.ret ⟨_,rfl,R18.up (by omega),by simp only[List.length_set];omega⟩)}}}};{exact Ex.ret ⟨_,rfl,R16.up (by omega),by simp only;omega⟩}
end Go.Proofs.Ytkjabgefacfpfaa
namespace Go.Proofs.Ytkjabgefacfpfaa
set_option linter.all false
namespace M
def insOk(x:DIns):Bool:=inR 0 15 x.Op&&inR 0 3 x.A&&inR 0 63 x.N
end M
theorem bJd(x:DIns):tJ x=some (M.insOk x):=by unfold tJ;rw[aCm,aCm,aCm];simp only[Option.bind_some,M.insOk];cases M.inR 0 15 x.Op<;>cases M.inR 0 3 x.A<;>cases M.inR 0 63 x.N<;>rfl
end Go.Proofs.Ytkjabgefacfpfaa
namespace Go.Proofs.Ytkjabgefacfpfaa
set_option linter.all false
theorem bDz(x:DIns):Ex (qI x) (λ_=>True):=by unfold qI;rw[bJd];exact Ex.cond (λ_=>Ex.ret trivial) λ_=>Ex.ret trivial
theorem bNt{m n:Int}{r:Dl20Rd}(R:Rdr m r)(hm:m<=999000):Ex (rN r n) (λv=>Rdr (m+6) v.1):=by unfold rN;refine Ex.bind (aT R (by omega) (by omega)) λv1 ⟨R1,a1,b1⟩=>?_;refine Ex.bind (aT R1 (by omega) (by omega)) λv2 ⟨R2,a2,b2⟩=>?_;refine Ex.bind (aT R2 (by omega) (by omega)) λv3 ⟨R3,a3,b3⟩=>?_;refine Ex.join (P:=λs:Int×List Int×Int×Int×Int=>Rdr (m+6) ⟨s.2.1,s.2.2.1⟩) ?_ λs hs=>Ex.ret hs;refine Ex.bind (bBk R3 (by omega)) λv5 R5=>?_;refine Ex.cond (λ_=>?_) λ_=>Ex.ret ⟨_,rfl,R5.up (by omega)⟩;refine Ex.bind (aT R5 (by omega) (by omega)) λv6 ⟨R6,a6,b6⟩=>?_;refine Ex.cond (λ_=>?_) λ_=>?_;{exact Ex.bind (aT R6 (by omega) (by omega)) λv7 ⟨R7,_,_⟩=>Ex.ret ⟨_,rfl,R7.up (by omega)⟩};{refine Ex.cond (λ_=>?_) λ_=>?_;{exact Ex.ret ⟨_,rfl,R6.up (by omega)⟩};{exact Ex.bind (aT R6 (by omega) (by omega)) λv7 ⟨R7,_,_⟩=>Ex.ret ⟨_,rfl,R7.up (by omega)⟩}}
theorem bCt{m:Int}{L:Nat}(hL:L<=64)(hm:m<=900000)(h0:0<=m)(s:List Int×Int×List Int×Int)(hs:0<=s.2.2.2/\s.2.2.2<=(L:Int)/\Rdr (m+12*s.2.2.2) ⟨s.1,s.2.1⟩/\s.2.2.1.length=L):
 Ex (rE s) (λo=>(∃s',o= .next s'/\(0<=s'.2.2.2/\s'.2.2.2<=(L:Int)/\Rdr (m+12*s'.2.2.2) ⟨s'.1,s'.2.1⟩/\s'.2.2.1.length=L)/\L-s'.2.2.2.toNat<L-s.2.2.2.toNat)\/∃t,o= .ret (.go t)/\(Rdr (m+768) ⟨t.2.1,t.2.2⟩/\t.1.length=L)):=by
 obtain⟨b,p,mem,k⟩:=s;obtain⟨k0,k1,R,hl⟩:=hs;simp only at k0 k1 R hl;unfold rE;refine Ex.cond (λhk=>?_) λhk=>?_
 · have hk:k<(mem.length:Int):=of_decide_eq_true hk
   refine Ex.join (P:=λs4:List Int×Int×List Int=>Rdr (m+12*k+12) ⟨s4.1,s4.2.1⟩/\s4.2.2.length=L) ?_ λs4 ⟨R4,hl4⟩=>?_;{refine Ex.join (P:=λ_:Bool=>True) (Ex.cond (λ_=>Ex.ret ⟨_,rfl,trivial⟩) λ_=>Ex.ret ⟨_,rfl,trivial⟩) λs5 _=>?_;unfold xH;refine Ex.cond (λ_=>?_) λ_=>?_;{refine Ex.bind (aT R (by omega) (by omega)) λv6 ⟨R6,a6,b6⟩=>?_;refine Ex.cond (λ_=>?_) λ_=>Ex.ret ⟨_,rfl,R6.up (by omega),hl⟩;refine Ex.bind (aT R6 (by omega) (by omega)) λv7 ⟨R7,a7,b7⟩=>?_;refine Ex.bind (aT R7 (by omega) (by omega)) λv8 ⟨R8,a8,b8⟩=>?_;refine Ex.bind (aT R8 (by omega) (by omega)) λv9 ⟨R9,a9,b9⟩=>?_;refine Ex.bind (aJh _) λv10 _=>?_;exact Ex.grd ⟨k0,hk⟩ (Ex.ret ⟨_,rfl,R9.up (by omega),by simp only[List.length_set];exact hl⟩)};{refine Ex.bind (bNt R (by omega)) λv11 R11=>?_;refine Ex.join (P:=λs12:List Int×Int×Int=>Rdr (m+12*k+8) ⟨s12.1,s12.2.1⟩) ?_ λs12 R12=>?_;{refine Ex.bind (aT R11 (by omega) (by omega)) λv16 ⟨R16,a16,b16⟩=>?_;refine Ex.cond (λ_=>?_) λ_=>Ex.ret ⟨_,rfl,R16.up (by omega)⟩;refine Ex.bind (aT R16 (by omega) (by omega)) λv17 ⟨R17,a17,b17⟩=>?_;exact Ex.grd ⟨a17,b17⟩ (Ex.ret ⟨_,rfl,R17.up (by omega)⟩)};{unfold vM;refine Ex.join (P:=λs13:List Int×Int×Int=>Rdr (m+12*k+9) ⟨s13.1,s13.2.1⟩) ?_ λs13 R13=>?_;{refine Ex.cond (λ_=>?_) λ_=>Ex.ret ⟨_,rfl,R12.up (by omega)⟩;refine Ex.bind (aT R12 (by omega) (by omega)) λv15 ⟨R15,a15,b15⟩=>?_;exact Ex.cond (λ_=>Ex.ret ⟨_,rfl,R15.up (by omega)⟩) λ_=>Ex.ret ⟨_,rfl,R15.up (by omega)⟩};{unfold vK;refine Ex.bind (bDz _) λv14 _=>?_;exact Ex.grd ⟨k0,hk⟩ (Ex.ret ⟨_,rfl,R13.up (by omega),by simp only[List.length_set];exact hl⟩)}}}}
   · unfold xI
     refine Ex.ret (.inl ⟨_,rfl,⟨?_,?_,?_,?_⟩,?_⟩);all_goals simp only[aC (z:=k+1) (by omega) (by omega)]
     {omega};{omega};{exact R4.up (by omega)};{exact hl4};{omega}
 {have hk:¬k<(mem.length:Int):=of_decide_eq_false hk;exact Ex.ret (.inr ⟨_,rfl,R.up (by omega),hl⟩)}
theorem bLk{m:Int}{r:Dl20Rd}(R:Rdr m r)(h0:0<=m)(hm:m<=800000):Ex (qF r) (λv=>Rdr (m+1400) v.1/\v.2.length=64):=by unfold qF;refine Ex.bind (bIa R h0 (by omega)) λv1 ⟨R1,hl,hl0⟩=>?_;have hl0:=hl0 (by omega);refine Ex.join (Ex.loopv (λs:List Int×Int×List Int×Int=>0<=s.2.2.2/\s.2.2.2<=(v1.2.length:Int)/\Rdr (m+600+12*s.2.2.2) ⟨s.1,s.2.1⟩/\s.2.2.1.length=v1.2.length) (λs=>v1.2.length-s.2.2.2.toNat) (λt=>Rdr (m+600+768) ⟨t.2.1,t.2.2⟩/\t.1.length=v1.2.length) ⟨by simp,by simp,R1.up (by simp),rfl⟩ (bCt hl (by omega) (by omega))) λs2 ⟨R2,h2⟩=>?_;unfold wZ;exact Ex.ret ⟨R2.up (by omega),by show s2.1.length=64;omega⟩
theorem aZq{m:Int}(hm:m<=900000)(h0:0<=m)(s:List Int×Int×List Int×Int)(hs:0<=s.2.2.2/\s.2.2.2<=3/\Rdr (m+2*(3-s.2.2.2)) ⟨s.1,s.2.1⟩/\(s.2.2.1.length:Int)+s.2.2.2<=3):
 Ex (lL s) (λo=>(∃s',o= .next s'/\(0<=s'.2.2.2/\s'.2.2.2<=3/\Rdr (m+2*(3-s'.2.2.2)) ⟨s'.1,s'.2.1⟩/\(s'.2.2.1.length:Int)+s'.2.2.2<=3)/\s'.2.2.2.toNat<s.2.2.2.toNat)\/∃t,o= .ret (.go t)/\(Rdr (m+6) ⟨t.1,t.2.1⟩/\t.2.2.length<=3)):=by
 obtain⟨b,p,l,k⟩:=s;obtain⟨k0,k1,R,hl⟩:=hs;simp only at k0 k1 R hl;unfold lL;refine Ex.cond (λhk=>?_) λhk=>?_
 · have hk:0<k:=of_decide_eq_true hk
   refine Ex.bind (aMx R (by omega)) λv ⟨R1,a1,b1⟩=>?_;refine Ex.grd ⟨by simp only[List.length_cons,List.length_nil];omega,by simp only[List.length_cons,List.length_nil];omega⟩ (Ex.ret (.inl ⟨_,rfl,⟨?_,?_,?_,?_⟩,?_⟩));all_goals simp only[aC (z:=k-1) (by omega) (by omega),List.length_append,List.length_cons,List.length_nil]
   {omega};{omega};{exact R1.up (by omega)};{omega};{omega}
 {have hk:¬0<k:=of_decide_eq_false hk;exact Ex.ret (.inr ⟨_,rfl,R.up (by omega),by show l.length<=3;omega⟩)}
theorem aWy{m k:Int}{r:Dl20Rd}(R:Rdr m r)(h0:0<=m)(hm:m<=900000)(k0:0<=k)(k1:k<=3):Ex (Option.bind (iter lL (r.b,r.p,[],k)) LO.val) (λj=>∃t,j= .go t/\(Rdr (m+6) ⟨t.1,t.2.1⟩/\t.2.2.length<=3)):=Ex.loopv (λs:List Int×Int×List Int×Int=>0<=s.2.2.2/\s.2.2.2<=3/\Rdr (m+2*(3-s.2.2.2)) ⟨s.1,s.2.1⟩/\(s.2.2.1.length:Int)+s.2.2.2<=3) (λs=>s.2.2.2.toNat) (λt:List Int×Int×List Int=>Rdr (m+6) ⟨t.1,t.2.1⟩/\t.2.2.length<=3) ⟨k0,k1,R.up (by simp only;omega),by simp only[List.length_nil];omega⟩ (aZq hm h0)
theorem bHn{m k:Int}{r:Dl20Rd}(R:Rdr m r)(h0:0<=m)(hm:m<=900000)(k0:0<=k)(k1:k<=3):Ex (Option.bind (iter wA (r.b,r.p,[],k)) LO.val) (λj=>∃t,j= .go t/\(Rdr (m+6) ⟨t.1,t.2.1⟩/\t.2.2.length<=3)):=aWy R h0 hm k0 k1
structure Tiny (b : DBare) : Prop where
 regs:b.C.Regs.length<=4
 mem:b.Mem.length<=64
 i:b.In.length<=31
 o:b.Out.length<=31
theorem Tiny.small{b:DBare}(h:Tiny b):SmallB b:=⟨⟨by have:=h.regs;omega⟩,by have:=h.mem;omega,by have:=h.i;omega,by have:=h.o;omega⟩
theorem bLq{m n:Int}{r:Dl20Rd}(R:Rdr m r)(h0:0<=m)(hm:m<=700000):Ex (qQ r n) (λv=>Rdr (m+3000) v.1/\Tiny v.2/\(n<=0->v.2.Mem.length=64)):=by unfold qQ;refine Ex.bind (bDr R h0 (by omega)) λv1 ⟨R1,c1⟩=>?_;refine Ex.bind (bLk R1 (by omega) (by omega)) λv2 ⟨R2,c2⟩=>?_;refine Ex.join (Ex.bind (aT R2 (by omega) (by omega)) λv13 ⟨R13,a13,b13⟩=>aWy R13 (by omega) (by omega) a13 (by omega)) λs3 ⟨R3,c3⟩=>?_;unfold xF;refine Ex.join (Ex.bind (aT R3 (by omega) (by omega)) λv10 ⟨R10,a10,b10⟩=>bHn R10 (by omega) (by omega) a10 (by omega)) λs4 ⟨R4,c4⟩=>?_;unfold xC;refine Ex.join (P:=λs5:List Int×Int×Int×Int×Int×Bool×Int×Int×Int×Bool×Bool×Bool×Bool×List Int×Int×List Int×List Int=>Rdr (m+3000) ⟨s5.2.2.2.2.2.2.2.2.2.2.2.2.2.1,s5.2.2.2.2.2.2.2.2.2.2.2.2.2.2.1⟩/\s5.1.length<=4/\s5.2.2.2.2.2.2.2.2.2.2.2.2.2.2.2.1.length<=64/\s5.2.2.2.2.2.2.2.2.2.2.2.2.2.2.2.2.length<=31/\(n<=0->s5.2.2.2.2.2.2.2.2.2.2.2.2.2.2.2.1.length=64)) ?_ λs5 ⟨h5,g1,g2,g3,g4⟩=>Ex.ret ⟨h5,⟨g1,g2,g3,by show s4.2.2.length<=31;omega⟩,g4⟩;have c2':v2.2.length<=64:=(by omega);refine Ex.bind (bCq R4 (by omega)) λv6 ⟨R6,o6⟩=>?_;refine Ex.cond (λhv=>?_) λ_=>Ex.ret ⟨_,rfl,R6.up (by omega),c1,c2',by simp only;omega,λ_=>c2⟩;refine Ex.bind (aT R6 (by omega) (by omega)) λv7 ⟨R7,a7,b7⟩=>?_;refine Ex.cond (λ_=>?_) λ_=>?_;{exact Ex.bind (bDr R7 (by omega) (by omega)) λv8 ⟨R8,c8⟩=>Ex.ret ⟨_,rfl,R8.up (by omega),c8,c2',by simp only;omega,λhn=>by rw[o6 hn]at hv;cases hv⟩};{refine Ex.cond (λ_=>?_) λ_=>?_;{exact Ex.bind (bIa R7 (by omega) (by omega)) λv8 ⟨R8,c8,_⟩=>Ex.ret ⟨_,rfl,R8.up (by omega),c1,c8,by simp only;omega,λhn=>by rw[o6 hn]at hv;cases hv⟩};{exact Ex.ret ⟨_,rfl,R7.up (by omega),c1,c2',by simp,λhn=>by rw[o6 hn]at hv;cases hv⟩}}
end Go.Proofs.Ytkjabgefacfpfaa
namespace Go.Proofs.Ytkjabgefacfpfaa
set_option linter.all false
structure LG (g : DGuest) : Prop where
 small:SmallG g
 pages:g.Live=true->g.Pages.length=8
structure LH (gs : List DGuest) : Prop where
 three:gs.length=3
 all:∀g∈gs,LG g
theorem LH.set{gs:List DGuest}{i:Nat}{x:DGuest}(h:LH gs)(hx:LG x):LH (gs.set i x):=by refine⟨by rw[List.length_set];exact h.three,λg hg=>?_⟩;rcases List.mem_or_eq_of_mem_set hg with hg|rfl;{exact h.all g hg};{exact hx}
theorem LH.get{gs:List DGuest}(h:LH gs){i:Nat}(hi:i<3):LG (gs.getD i default):=h.all _ (dB (by rw[h.three];exact hi))
theorem LH.host{gs:List DGuest}{ws:List Int}(h:LH gs)(hw:ws.length=160):SmallH ⟨ws,gs⟩:=⟨by simp only[hw];omega,by simp only[h.three];omega,λg hg=>(h.all g hg).small⟩
theorem bIg{h:DHost}{b:DBare}(hb:(M.hostBoot h b).2.2=true)(hs:SmallB b)(hl:LH h.Guests):(M.hostBoot h b).1.Words.length=160/\LH (M.hostBoot h b).1.Guests:=by unfold M.hostBoot at hb ⊢;(cases hc:(M.hostOk h&&M.bareOk b&&(!decide (M.gone h.Guests=-1)&&decide (M.used b.Mem 8<=(M.free (M.slots h.Guests)).length)))with|false=>rw[hc]at hb;cases hb|true=>simp only[Bool.and_eq_true,decide_eq_true_eq]at hc;have hk:=dJ.1 hc.1.1;simp only[cond_true,M.booted];exact⟨yL hk.len (by omega) hc.2.2,hl.set ⟨⟨hs.c,by simp[M.slotsFor],hs.i,hs.o⟩,λ_=>by simp[M.slotsFor]⟩⟩)
abbrev S18:=List Int×Int×List Int×List DGuest×List Int×Int×Int×Int×Int×Bool×Int×Int×Int×Bool×Bool×Bool×Bool×List Int×List Int×List Int×Int
abbrev S19:=List Int×Int×List Int×List DGuest×List Int×Int×Int×Int×Int×Bool×Int×Int×Int×Bool×Bool×Bool×Bool×List Int×List Int×List Int
theorem bCb{m:Int}(hm:m<=900000)(h0:0<=m)(s:List Int×Int×List Int×Int)(hs:0<=s.2.2.2/\s.2.2.2<=160/\Rdr (m+3*s.2.2.2) ⟨s.1,s.2.1⟩/\s.2.2.1.length=160):
 Ex (pI s) (λo=>(∃s',o= .next s'/\(0<=s'.2.2.2/\s'.2.2.2<=160/\Rdr (m+3*s'.2.2.2) ⟨s'.1,s'.2.1⟩/\s'.2.2.1.length=160)/\160-s'.2.2.2.toNat<160-s.2.2.2.toNat)\/∃t,o= .ret (.go t)/\(Rdr (m+480) ⟨t.1,t.2.1⟩/\t.2.2.length=160)):=by
 obtain⟨b,p,ws,k⟩:=s;obtain⟨k0,k1,R,hl⟩:=hs;simp only at k0 k1 R hl;unfold pI;refine Ex.cond (λhk=>?_) λhk=>?_
 · have hk:k<(ws.length:Int):=of_decide_eq_true hk
   refine Ex.join (P:=λs:List Int×Int×List Int=>Rdr (m+3*k+3) ⟨s.1,s.2.1⟩/\s.2.2.length=160) ?_ λs ⟨R1,h1⟩=>?_;{refine Ex.bind (aT R (by omega) (by omega)) λv ⟨R1,_,_⟩=>?_;refine Ex.cond (λ_=>?_) λ_=>Ex.ret ⟨_,rfl,R1.up (by omega),hl⟩;refine Ex.bind (aMx R1 (by omega)) λv ⟨R2,_,_⟩=>?_;exact Ex.grd ⟨k0,hk⟩ (Ex.ret ⟨_,rfl,R2.up (by omega),by simp only[List.length_set];exact hl⟩)}
   · unfold wF
     refine Ex.ret (.inl ⟨_,rfl,⟨?_,?_,?_,?_⟩,?_⟩);all_goals simp only[aC (z:=k+1) (by omega) (by omega)]
     {omega};{omega};{exact R1.up (by omega)};{exact h1};{omega}
 {have hk:¬k<(ws.length:Int):=of_decide_eq_false hk;exact Ex.ret (.inr ⟨_,rfl,R.up (by omega),hl⟩)}
theorem bGf{m:Int}{s18:S18}(hm:m<=900000)(h0:0<=m)(hsame:s18.2.2.2.2.2.2.2.2.2.2.2.2.2.2.2.2.2.1.length=0\/s18.2.2.2.2.2.2.2.2.2.2.2.2.2.2.2.2.2.1.length=64)(s:List Int×Int×List Int×Int)(hs:0<=s.2.2.2/\s.2.2.2<=8/\Rdr (m+2*s.2.2.2) ⟨s.1,s.2.1⟩/\s.2.2.1.length=64):
 Ex (pE s18 s) (λo=>(∃s',o= .next s'/\(0<=s'.2.2.2/\s'.2.2.2<=8/\Rdr (m+2*s'.2.2.2) ⟨s'.1,s'.2.1⟩/\s'.2.2.1.length=64)/\8-s'.2.2.2.toNat<8-s.2.2.2.toNat)\/∃t,o= .ret (.go t)/\(Rdr (m+16) ⟨t.1,t.2.1⟩/\t.2.2.length=64)):=by
 obtain⟨b,p,mem,k⟩:=s;obtain⟨k0,k1,R,hl⟩:=hs;simp only at k0 k1 R hl;unfold pE;refine Ex.cond (λhk=>?_) λhk=>?_
 · have hk:k<8:=of_decide_eq_true hk
   have e1:w64 (k*8)=k*8:=aC (by omega) (by omega);have e2:w64 ((w64 (k+1))*8)=(k+1)*8:=(by rw[aC (z:=k+1) (by omega) (by omega),aC (by omega) (by omega)]);refine Ex.join (P:=λs:List Int×Int×List Int=>Rdr (m+2*k+2) ⟨s.1,s.2.1⟩/\s.2.2.length=64) ?_ λs ⟨R1,h1⟩=>?_;{refine Ex.join (P:=λs:List Int×Int×List Int=>Rdr (m+2*k+1) ⟨s.1,s.2.1⟩/\s.2.2.length=64) ?_ λs ⟨R1,h1⟩=>?_;{refine Ex.cond (λ_=>?_) λ_=>Ex.ret ⟨_,rfl,R.up (by omega),hl⟩;refine Ex.bind (aT R (by omega) (by omega)) λv ⟨R1,_,_⟩=>?_;refine Ex.cond (λ_=>?_) λ_=>Ex.ret ⟨_,rfl,R1,hl⟩;simp only[e1];exact Ex.grd ⟨by omega,by omega,by omega⟩ (Ex.ret ⟨_,rfl,R1,by simp only[aDf,List.length_replicate];omega⟩)};{unfold vZ;refine Ex.cond (λhz=>?_) λ_=>Ex.ret ⟨_,rfl,R1.up (by omega),h1⟩;have hz:=of_decide_eq_true hz;have h64:=hsame.resolve_left (by omega);refine Ex.bind (aT R1 (by omega) (by omega)) λv ⟨R2,_,_⟩=>?_;refine Ex.cond (λ_=>?_) λ_=>Ex.ret ⟨_,rfl,R2.up (by omega),h1⟩;simp only[e1,e2];exact Ex.grd ⟨by omega,by omega,by omega⟩ (Ex.grd ⟨by omega,by omega,by omega⟩ (Ex.ret ⟨_,rfl,R2.up (by omega),by simp only[aDf,List.length_take,List.length_drop];omega⟩))}}
   · unfold wD
     refine Ex.ret (.inl ⟨_,rfl,⟨?_,?_,?_,?_⟩,?_⟩);all_goals simp only[aC (z:=k+1) (by omega) (by omega)]
     {omega};{omega};{exact R1.up (by omega)};{exact h1};{omega}
 {have hk:¬k<8:=of_decide_eq_false hk;exact Ex.ret (.inr ⟨_,rfl,R.up (by omega),hl⟩)}
theorem bDx{m:Int}(hm:m<=600000)(h0:0<=m)(s:S18)(hs:0<=s.2.2.2.2.2.2.2.2.2.2.2.2.2.2.2.2.2.2.2.2/\s.2.2.2.2.2.2.2.2.2.2.2.2.2.2.2.2.2.2.2.2<=3/\Rdr (m+3100*(3-s.2.2.2.2.2.2.2.2.2.2.2.2.2.2.2.2.2.2.2.2)) ⟨s.1,s.2.1⟩/\s.2.2.1.length=160/\LH s.2.2.2.1/\(s.2.2.2.2.2.2.2.2.2.2.2.2.2.2.2.2.2.1.length=0\/s.2.2.2.2.2.2.2.2.2.2.2.2.2.2.2.2.2.1.length=64)):
 Ex (oW s) (λo=>(∃s',o= .next s'/\(0<=s'.2.2.2.2.2.2.2.2.2.2.2.2.2.2.2.2.2.2.2.2/\s'.2.2.2.2.2.2.2.2.2.2.2.2.2.2.2.2.2.2.2.2<=3/\Rdr (m+3100*(3-s'.2.2.2.2.2.2.2.2.2.2.2.2.2.2.2.2.2.2.2.2)) ⟨s'.1,s'.2.1⟩/\s'.2.2.1.length=160/\LH s'.2.2.2.1/\(s'.2.2.2.2.2.2.2.2.2.2.2.2.2.2.2.2.2.1.length=0\/s'.2.2.2.2.2.2.2.2.2.2.2.2.2.2.2.2.2.1.length=64))/\s'.2.2.2.2.2.2.2.2.2.2.2.2.2.2.2.2.2.2.2.2.toNat<s.2.2.2.2.2.2.2.2.2.2.2.2.2.2.2.2.2.2.2.2.toNat)\/∃t,o= .ret (.go t)/\(Rdr (m+9300) ⟨t.1,t.2.1⟩/\t.2.2.1.length=160/\LH t.2.2.2)):=by
 obtain⟨b,p,ws,gs,a5,a6,a7,a8,a9,a10,a11,a12,a13,a14,a15,a16,a17,mem,a19,a20,k⟩:=s;obtain⟨k0,k1,R,hw,hg,hmem⟩:=hs;simp only at k0 k1 R hw hg hmem;unfold oW;refine Ex.cond (λhk=>?_) λhk=>?_
 · have hk:0<k:=of_decide_eq_true hk
   refine Ex.join (P:=λs:S19=>Rdr (m+3100*(3-k)+3100) ⟨s.1,s.2.1⟩/\s.2.2.1.length=160/\LH s.2.2.2.1/\s.2.2.2.2.2.2.2.2.2.2.2.2.2.2.2.2.2.1.length=64) ?_ λs ⟨R1,h1,h2,h3⟩=>?_;{refine Ex.bind (bLq R (by omega) (by omega)) λv ⟨R2,t2,l2⟩=>?_;have l2:=l2 (by omega);refine Ex.join (Ex.loopv (λs:List Int×Int×List Int×Int=>0<=s.2.2.2/\s.2.2.2<=8/\Rdr (m+3100*(3-k)+3000+2*s.2.2.2) ⟨s.1,s.2.1⟩/\s.2.2.1.length=64) (λs=>8-s.2.2.2.toNat) (λt:List Int×Int×List Int=>Rdr (m+3100*(3-k)+3000+16) ⟨t.1,t.2.1⟩/\t.2.2.length=64) ⟨by simp,by simp,R2.up (by simp),l2⟩ (bGf (by omega) (by omega) hmem)) λs ⟨R3,h3⟩=>?_;unfold wC;have hsb:SmallB (DBare.mk v.2.C s.2.2 v.2.In v.2.Out):=⟨t2.small.c,by simp only[h3];omega,t2.small.i,t2.small.o⟩;rw[bAc (hg.host hw) hsb,Option.bind_some];refine Ex.cond (λhb=>?_) λ_=>Ex.ret ⟨_,rfl,R3.up (by omega),hw,hg,h3⟩;obtain⟨q1,q2⟩:=bIg hb hsb hg;exact Ex.ret ⟨_,rfl,R3.up (by omega),q1,q2,h3⟩}
   · unfold wK
     refine Ex.ret (.inl ⟨_,rfl,⟨?_,?_,?_,h1,h2,.inr h3⟩,?_⟩);all_goals simp only[aC (z:=k-1) (by omega) (by omega)]
     {omega};{omega};{exact R1.up (by omega)};{omega}
 {have hk:¬0<k:=of_decide_eq_false hk;exact Ex.ret (.inr ⟨_,rfl,R.up (by omega),hw,hg⟩)}
theorem bAh{m:Int}(hm:m<=900000)(h0:0<=m)(s:List Int×Int×List DGuest×Int)(hs:0<=s.2.2.2/\s.2.2.2<=3/\Rdr (m+5*(3-s.2.2.2)) ⟨s.1,s.2.1⟩/\LH s.2.2.1):
 Ex (pM s) (λo=>(∃s',o= .next s'/\(0<=s'.2.2.2/\s'.2.2.2<=3/\Rdr (m+5*(3-s'.2.2.2)) ⟨s'.1,s'.2.1⟩/\LH s'.2.2.1)/\s'.2.2.2.toNat<s.2.2.2.toNat)\/∃t,o= .ret (.go t)/\(Rdr (m+15) ⟨t.1,t.2.1⟩/\LH t.2.2)):=by
 obtain⟨b,p,gs,k⟩:=s;obtain⟨k0,k1,R,hg⟩:=hs;simp only at k0 k1 R hg;have h3:=hg.three;unfold pM;refine Ex.cond (λhk=>?_) λhk=>?_
 · have hk:0<k:=of_decide_eq_true hk
   refine Ex.join (P:=λs:List Int×Int×List DGuest=>Rdr (m+5*(3-k)+5) ⟨s.1,s.2.1⟩/\LH s.2.2) ?_ λs ⟨R1,h1⟩=>?_
   · refine Ex.bind (aT R (by omega) (by omega)) λv12 ⟨R12,a12,b12⟩=>?_
     refine Ex.bind (aT R12 (by omega) (by omega)) λv13 ⟨R13,a13,b13⟩=>?_;refine Ex.bind (aT R13 (by omega) (by omega)) λv14 ⟨R14,a14,b14⟩=>?_;have lA:=hg.get (i:=v12.2.toNat) (by omega);have lB:=hg.get (i:=v13.2.toNat) (by omega);have gA:(0:Int)<=v12.2/\v12.2<((gs.length:Nat):Int):=⟨a12,by omega⟩;have gB:(0:Int)<=v13.2/\v13.2<((gs.length:Nat):Int):=⟨a13,by omega⟩;refine Ex.grd gA (Ex.cond (λhA=>?_) λ_=>Ex.ret ⟨_,rfl,R14.up (by omega),hg⟩);refine Ex.grd gB (Ex.cond (λhB=>?_) λ_=>Ex.ret ⟨_,rfl,R14.up (by omega),hg⟩);have pA:=lA.pages hA;have pB:=lB.pages hB;have gP:(0:Int)<=v14.2/\v14.2<(((gs.getD v12.2.toNat default).Pages.length:Nat):Int):=⟨a14,by omega⟩;refine Ex.grd gA (Ex.grd gP (Ex.cond (λ_=>?_) λ_=>Ex.ret ⟨_,rfl,R14.up (by omega),hg⟩));refine Ex.grd gA (Ex.grd gP (Ex.grd gB (Ex.bind (aT R14 (by omega) (by omega)) λv15 ⟨R15,a15,b15⟩=>?_)));generalize hx:(DGuest.mk (gs.getD v12.2.toNat default).Live (gs.getD v12.2.toNat default).C ((gs.getD v12.2.toNat default).Pages.set v14.2.toNat (DSlot.mk ((gs.getD v12.2.toNat default).Pages.getD v14.2.toNat default).Frame false ((gs.getD v12.2.toNat default).Pages.getD v14.2.toNat default).Dirty)) (gs.getD v12.2.toNat default).In (gs.getD v12.2.toNat default).Out)=x;have lx:LG x:=(by subst hx;exact⟨⟨⟨lA.small.c.regs⟩,by simpa only[List.length_set]using lA.small.pages,lA.small.i,lA.small.o⟩,λ_=>by simpa only[List.length_set]using pA⟩);have xl:x.Live=true:=(by subst hx;exact hA);have xp:x.Pages.length=(gs.getD v12.2.toNat default).Pages.length:=(by subst hx;exact List.length_set);have gP2:(0:Int)<=v14.2/\v14.2<((((gs.set v12.2.toNat x).getD v12.2.toNat default).Pages.length:Nat):Int):=(by rw[bO (by rw[List.length_set];omega),List.getElem_set_self,xp];exact gP);refine Ex.grd gA (Ex.grd gP2 (Ex.bind (aT R15 (by omega) (by omega)) λv16 ⟨R16,a16,b16⟩=>?_));have hg2:=hg.set (i:=v12.2.toNat) lx;have lB2:=hg2.get (i:=v13.2.toNat) (by omega)
     have hB2:((gs.set v12.2.toNat x).getD v13.2.toNat default).Live=true:=by
      by_cases e:v12.2.toNat=v13.2.toNat
      {rw[e];rw[bO (by rw[List.length_set];omega),List.getElem_set_self];exact xl};{rw[bO (by rw[List.length_set];omega),List.getElem_set_ne e,<-bO];exact hB}
     have pB2:=lB2.pages hB2;have gQ:(0:Int)<=v15.2/\v15.2<((((gs.set v12.2.toNat x).getD v13.2.toNat default).Pages.length:Nat):Int):=⟨a15,by omega⟩;refine Ex.grd gQ (Ex.ret ⟨_,rfl,R16.up (by omega),?_⟩);exact hg2.set ⟨⟨⟨lB2.small.c.regs⟩,by simpa only[List.length_set]using lB2.small.pages,lB2.small.i,lB2.small.o⟩,λ_=>by simpa only[List.length_set]using pB2⟩
   · unfold wG
     refine Ex.ret (.inl ⟨_,rfl,⟨?_,?_,?_,h1⟩,?_⟩);all_goals simp only[aC (z:=k-1) (by omega) (by omega)]
     {omega};{omega};{exact R1.up (by omega)};{omega}
 {have hk:¬0<k:=of_decide_eq_false hk;exact Ex.ret (.inr ⟨_,rfl,R.up (by omega),hg⟩)}
theorem bNa{m n:Int}{r:Dl20Rd}(R:Rdr m r)(h0:0<=m)(hm:m<=500000):Ex (qC r n) (λv=>Rdr (m+12000) v.1/\SmallH v.2):=by unfold qC;refine Ex.bind (P:=λv:DHost=>v.Words.length=160/\LH v.Guests) ⟨_,rfl,by simp,by simp,λg hg=>?_⟩ λv1 ⟨w1,g1⟩=>?_;{have:=List.eq_of_mem_replicate (show g∈List.replicate 3 M.noGuest from hg);rw[this];exact⟨⟨⟨by decide⟩,by decide,by decide,by decide⟩,λh=>by cases h⟩};refine Ex.join (Ex.loopv (λs:List Int×Int×List Int×Int=>0<=s.2.2.2/\s.2.2.2<=160/\Rdr (m+3*s.2.2.2) ⟨s.1,s.2.1⟩/\s.2.2.1.length=160) (λs=>160-s.2.2.2.toNat) (λt:List Int×Int×List Int=>Rdr (m+480) ⟨t.1,t.2.1⟩/\t.2.2.length=160) ⟨by simp,by simp,R.up (by simp),w1⟩ (bCb (by omega) h0)) λs2 ⟨R2,w2⟩=>?_;unfold xE;refine Ex.join (Ex.bind (aT R2 (by omega) (by omega)) λv17 ⟨R17,a17,b17⟩=>Ex.loopv (λs:S18=>0<=s.2.2.2.2.2.2.2.2.2.2.2.2.2.2.2.2.2.2.2.2/\s.2.2.2.2.2.2.2.2.2.2.2.2.2.2.2.2.2.2.2.2<=3/\Rdr (m+481+3100*(3-s.2.2.2.2.2.2.2.2.2.2.2.2.2.2.2.2.2.2.2.2)) ⟨s.1,s.2.1⟩/\s.2.2.1.length=160/\LH s.2.2.2.1/\(s.2.2.2.2.2.2.2.2.2.2.2.2.2.2.2.2.2.1.length=0\/s.2.2.2.2.2.2.2.2.2.2.2.2.2.2.2.2.2.1.length=64)) (λs=>s.2.2.2.2.2.2.2.2.2.2.2.2.2.2.2.2.2.2.2.2.toNat) (λt:List Int×Int×List Int×List DGuest=>Rdr (m+481+9300) ⟨t.1,t.2.1⟩/\t.2.2.1.length=160/\LH t.2.2.2) (by simp only[aC (z:=1+v17.2) (by omega) (by omega)];exact⟨by omega,by omega,R17.up (by omega),w2,g1,.inl rfl⟩) (bDx (by omega) (by omega))) λs3 ⟨R3,w3,g3⟩=>?_;unfold xJ;refine Ex.join (Ex.bind (aT R3 (by omega) (by omega)) λv9 ⟨R9,a9,b9⟩=>Ex.loopv (λs:List Int×Int×List DGuest×Int=>0<=s.2.2.2/\s.2.2.2<=3/\Rdr (m+481+9300+1+5*(3-s.2.2.2)) ⟨s.1,s.2.1⟩/\LH s.2.2.1) (λs=>s.2.2.2.toNat) (λt:List Int×Int×List DGuest=>Rdr (m+481+9300+1+15) ⟨t.1,t.2.1⟩/\LH t.2.2) ⟨a9,by simp only;omega,R9.up (by simp only;omega),g3⟩ (bAh (by omega) (by omega))) λs4 ⟨R4,g4⟩=>?_;have t4:=g4.three;unfold wY;refine Ex.join (P:=λs:List Int×List Int×Int×List DGuest=>Rdr (m+12000) ⟨s.2.1,s.2.2.1⟩/\SmallH ⟨s.1,s.2.2.2⟩) ?_ λs5 h5=>Ex.ret h5;refine Ex.bind (bBk R4 (by omega)) λv6 R6=>?_;refine Ex.cond (λ_=>?_) λ_=>Ex.ret ⟨_,rfl,R6.up (by omega),g4.host w3⟩;refine Ex.bind (aT R6 (by omega) (by omega)) λv7 ⟨R7,a7,b7⟩=>?_;refine Ex.cond (λ_=>?_) λ_=>?_;{refine Ex.bind (aT R7 (by omega) (by omega)) λv8 ⟨R8,a8,b8⟩=>?_;exact Ex.grd ⟨a8,by omega⟩ (Ex.ret ⟨_,rfl,R8.up (by omega),g4.host (by simpa only[List.length_set]using w3)⟩)};{refine Ex.cond (λ_=>?_) λ_=>?_;{refine Ex.grd ⟨by omega,by omega,by omega⟩ (Ex.ret ⟨_,rfl,R7.up (by omega),⟨by simp only[w3];omega,by simp only[List.length_take];omega,λg hg=>?_⟩⟩);exact(g4.all g (List.mem_of_mem_take hg)).small};{refine Ex.cond (λ_=>?_) λ_=>?_;{exact Ex.grd ⟨by omega,by omega⟩ (Ex.ret ⟨_,rfl,R7.up (by omega),(g4.set ⟨⟨⟨by simp⟩,by simp,by simp,by simp⟩,λh=>by cases h⟩).host w3⟩)};{have l0:=g4.get (i:=0) (by omega);refine Ex.grd ⟨by omega,by omega⟩ (Ex.ret ⟨_,rfl,R7.up (by omega),⟨by simp only[w3];omega,by simp only[List.length_set];omega,λg hg=>?_⟩⟩);rcases List.mem_or_eq_of_mem_set hg with hg|rfl;{exact(g4.all g hg).small};{exact⟨⟨l0.small.c.regs⟩,by simp,l0.small.i,l0.small.o⟩}}}}
end Go.Proofs.Ytkjabgefacfpfaa
namespace Go.Proofs.Ytkjabgefacfpfaa
set_option linter.all false
structure FG (gs : List DGuest) : Prop where
 three:gs.length=3
 all:∀g∈gs,SmallG g/\g.Pages.length<=8
theorem FG.get{gs:List DGuest}(h:FG gs){i:Nat}(hi:i<3):SmallG (gs.getD i default)/\(gs.getD i default).Pages.length<=8:=h.all _ (dB (by rw[h.three];exact hi))
theorem FG.set{gs:List DGuest}{i:Nat}{x:DGuest}(h:FG gs)(hx:SmallG x/\x.Pages.length<=8):FG (gs.set i x):=by refine⟨by rw[List.length_set];exact h.three,λg hg=>?_⟩;rcases List.mem_or_eq_of_mem_set hg with hg|rfl;{exact h.all g hg};{exact hx}
theorem FG.host{gs:List DGuest}{ws:List Int}(h:FG gs)(hw:ws.length<=1048576):SmallH ⟨ws,gs⟩:=⟨hw,by simp only[h.three];omega,λg hg=>(h.all g hg).1⟩
theorem bFm {v1:Dl20Rd×DHost} {m:Int} (hw:v1.2.Words.length<=1048576) (hm:m<=900000) (h0:0<=m) {q:Int} (q0:0<=q) (q1:q<3) (s5:List Int×Int×List DGuest×Int) (e5:s5.2.2.2=q) (s:List Int×Int×List DGuest×Int)
 (hs:0<=s.2.2.2/\s.2.2.2<=8/\Rdr (m+s.2.2.2) ⟨s.1,s.2.1⟩/\FG s.2.2.1):
 Ex (qT v1 s5 s) (λo=>(∃s',o= .next s'/\(0<=s'.2.2.2/\s'.2.2.2<=8/\Rdr (m+s'.2.2.2) ⟨s'.1,s'.2.1⟩/\FG s'.2.2.1)/\8-s'.2.2.2.toNat<8-s.2.2.2.toNat)\/∃t:List Int×Int×List DGuest,o= .ret (.go t)/\(Rdr (m+8) ⟨t.1,t.2.1⟩/\FG t.2.2)):=by
 obtain⟨b,p,gs,k⟩:=s;obtain⟨k0,k1,R,hg⟩:=hs;simp only at k0 k1 R hg;have h3:=hg.three;have gq:=hg.get (i:=q.toNat) (by omega);unfold qT;simp only[e5];refine Ex.grd ⟨q0,by omega⟩ (Ex.cond (λhk=>?_) λ_=>Ex.ret (.inr ⟨_,rfl,R.up (by omega),hg⟩));have hk:=of_decide_eq_true hk;refine Ex.join (P:=λs:List Int×Int×List DGuest=>Rdr (m+k+1) ⟨s.1,s.2.1⟩/\FG s.2.2) ?_ λs ⟨R1,h1⟩=>?_;{rw[aMv (hg.host hw),Option.bind_some];refine Ex.grd ⟨q0,by omega⟩ (Ex.grd ⟨k0,hk⟩ (Ex.cond (λ_=>?_) λ_=>Ex.ret ⟨_,rfl,R.up (by omega),hg⟩));refine Ex.cond (λhl=>?_) λ_=>Ex.ret ⟨_,rfl,R.up (by omega),hg⟩;have hl:=of_decide_eq_true hl;refine Ex.bind (aT R (by omega) (by omega)) λv10 ⟨R10,_,_⟩=>?_;refine Ex.cond (λ_=>?_) λ_=>Ex.ret ⟨_,rfl,R10.up (by omega),hg⟩;refine Ex.grd ⟨q0,by omega⟩ (Ex.grd ⟨by omega,hl⟩ (Ex.grd ⟨k0,hk⟩ (Ex.ret ⟨_,rfl,R10.up (by omega),?_⟩)));exact hg.set ⟨⟨⟨gq.1.c.regs⟩,by simpa only[List.length_set]using gq.1.pages,gq.1.i,gq.1.o⟩,by simpa only[List.length_set]using gq.2⟩}
 · unfold xG
   refine Ex.ret (.inl ⟨_,rfl,⟨?_,?_,?_,h1⟩,?_⟩);all_goals simp only[aC (z:=k+1) (by omega) (by omega)]
   {omega};{omega};{exact R1.up (by omega)};{omega}
theorem bDu{m:Int}{r:Dl20Rd}(R:Rdr m r)(h0:0<=m)(hm:m<=400000):Ex (jY r) (λv=>Rdr (m+12100) v.1/\SmallH v.2):=by
 unfold jY;refine Ex.bind (bNa R h0 (by omega)) λv1 ⟨R1,hs⟩=>?_;refine Ex.join (P:=λs:List DGuest×List Int×Int=>Rdr (m+12100) ⟨s.2.1,s.2.2⟩/\SmallH ⟨v1.2.Words,s.1⟩) ?_ λs h=>Ex.ret h;refine Ex.bind (aT R1 (by omega) (by omega)) λv3 ⟨R3,_,_⟩=>?_;refine Ex.cond (λ_=>?_) λ_=>Ex.ret ⟨_,rfl,R3.up (by omega),hs⟩;rw[zK hs,Option.bind_some];cases hok:M.hostOk v1.2 with
 |false=>exact Ex.ret ⟨_,rfl,R3.up (by omega),hs⟩
 |true=>
  have hk:=dJ.1 hok;have g0:FG v1.2.Guests:=⟨hk.three,λg hg=>⟨hs.all g hg,(dC (List.all_eq_true.1 hk.all g hg)).2⟩⟩;rw[cond_true];refine Ex.loopv (λs:List Int×Int×List DGuest×Int=>0<=s.2.2.2/\s.2.2.2<=3/\Rdr (m+12001+8*s.2.2.2) ⟨s.1,s.2.1⟩/\FG s.2.2.1) (λs=>3-s.2.2.2.toNat) (λt:List DGuest×List Int×Int=>Rdr (m+12100) ⟨t.2.1,t.2.2⟩/\SmallH ⟨v1.2.Words,t.1⟩) ⟨by simp,by simp,R3.up (by simp;omega),g0⟩ λs5 ⟨k0,k1,R5,g5⟩=>?_;obtain⟨b,p,gs,k⟩:=s5;simp only at k0 k1 R5 g5;unfold xD;refine Ex.cond (λhk=>?_) λ_=>Ex.ret (.inr ⟨_,rfl,R5.up (by omega),g5.host hs.words⟩);have hk:=of_decide_eq_true hk;simp only at hk;refine Ex.join (Ex.loopv (λs:List Int×Int×List DGuest×Int=>0<=s.2.2.2/\s.2.2.2<=8/\Rdr (m+12001+8*k+s.2.2.2) ⟨s.1,s.2.1⟩/\FG s.2.2.1) (λs=>8-s.2.2.2.toNat) (λt:List Int×Int×List DGuest=>Rdr (m+12001+8*k+8) ⟨t.1,t.2.1⟩/\FG t.2.2) ⟨by simp,by simp,R5.up (by simp),g5⟩ (bFm hs.words (by omega) (by omega) k0 hk (b,p,gs,k) rfl)) λt ⟨R6,g6⟩=>?_;unfold wX;refine Ex.ret (.inl ⟨_,rfl,⟨?_,?_,?_,g6⟩,?_⟩);all_goals simp only[aC (z:=k+1) (by omega) (by omega)]
  {omega};{omega};{exact R6.up (by omega)};{omega}
end Go.Proofs.Ytkjabgefacfpfaa
namespace Go.Proofs.Ytkjabgefacfpfaa
set_option linter.all false
theorem aNj{xs:List Int}{n:Int}(hl:xs.length<=1048576):∃b,nX xs n=some b/\(b=true↔n∈xs):=by
 unfold nX
 have key:=vQ (n:=xs.length) (step:=nG xs n) (λk=>k) (λi=>!decide (xs.getD i default=n)) (JO.go ()) (.out true) (λk hk=>by
  simp only[nG,Int.toNat_natCast];rw[decide_eq_true (p:=(k:Int)<_) (by omega),cond_true,aD ⟨by omega,by omega⟩,aC (by omega) (by omega)];cases decide (xs.getD k default=n)<;>rfl) (by
  simp only[nG];rw[decide_eq_false (by omega),cond_false])
 have hiff:(List.range xs.length).all (λi=>!decide (xs.getD i default=n))=true↔n∉xs:=(by rw[List.all_eq_true];constructor;{intro h hm;obtain⟨i,hi,e⟩:=List.getElem_of_mem hm;have:=h i (List.mem_range.2 hi);rw[bO hi,e,decide_eq_true rfl]at this;cases this};{intro h i hi;rw[decide_eq_false (λe=>h (by rw[<-e];exact dB (List.mem_range.1 hi)))];rfl});rw[key];cases e:(List.range xs.length).all (λi=>!decide (xs.getD i default=n))with
 |true=>exact⟨false,rfl,by simp only[Bool.false_eq_true,false_iff];exact hiff.1 e⟩
 |false=>refine⟨true,rfl,by simp only[true_iff];exact Classical.byContradiction λhn=>by rw[hiff.2 hn]at e;cases e⟩
theorem aWe{xs:List Int}(hx:∀x∈xs,0<=x/\x<=255):Ex (eO xs) (λh=>SmallH h):=by unfold eO;refine Ex.bind (bEy hx) λr R=>?_;exact Ex.bind (bDu R (by omega) (by omega)) λv ⟨_,hs⟩=>Ex.ret hs
theorem aVn{ss:List DSlot}{a:Nat}(ha:a<20)(h:(a:Int)∉M.free ss):0<M.many ss (a:Int):=by rcases Nat.eq_zero_or_pos (M.many ss (a:Int))with e|e;{exact absurd (by rw[uM];exact List.mem_map.2 ⟨a,List.mem_filter.2 ⟨List.mem_range.2 ha,decide_eq_true e⟩,rfl⟩) h};{exact e}
theorem aQn{xs:List Int}(hx:∀x∈xs,0<=x/\x<=255):Ex (iF xs) (λb=>b=true):=by
 have al:Ex (Option.bind kB λv=>some v) (λb=>b=true):=Ex.bind (aXi (Q:=λb=>b=true) rfl) λb hb=>Ex.ret hb;unfold iF;refine Ex.cond (λ_=>Ex.ret rfl) λ_=>?_;refine Ex.bind (aWe hx) λh hs=>?_;have hz:=aJe hs;rw[aBi hs,Option.bind_some,aJp hs,Option.bind_some,wT hz,Option.bind_some,Bool.not_true,cond_false,pU hs,Option.bind_some];cases hk:M.hostOk h with
 |false=>have:M.hostShare h=⟨[],[]⟩:=(by unfold M.hostShare;rw[hk];rfl);rw[this];exact al
 |true=>
  have k:=dJ.1 hk;have hw:=k.len;have ok:=tM hk;have ew:(M.hostShare h).Words=h.Words:=(by rw[pH hk]);have ef:M.hostFree (M.hostShare h)=M.free (M.slots (M.hostShare h).Guests):=(by unfold M.hostFree;rw[ok];rfl);have hfl:=aVc (h:=M.hostShare h);rw[Bool.not_true,cond_false,xP hz,Option.bind_some]
  have inner:∀a:Nat,a<20->iter (fC (M.hostShare h) (M.hostFree (M.hostShare h)) (a:Int)) 0=some (.ret (.go ())):=λa ha=>by
   have key:=iB (n:=a) (step:=fC (M.hostShare h) (M.hostFree (M.hostShare h)) (a:Int)) (λb=>(b:Int)) (λ_=>true) (JO.go ()) (.go ()) (λb hb _=>by
    simp only[fC,ew];rw[decide_eq_true (p:=(b:Int)<(a:Int)) (by omega),cond_true];obtain⟨p,p1,p2⟩:=aNj (xs:=M.hostFree (M.hostShare h)) (n:=(a:Int)) (by omega);obtain⟨q,q1,q2⟩:=aNj (xs:=M.hostFree (M.hostShare h)) (n:=(b:Int)) (by omega);rw[p1,Option.bind_some];cases p with
    |true=>simp only[Bool.not_true,cond_false,Option.bind_some,JO.run,gZ,cond_true];rw[aC (by omega) (by omega)];rfl
    |false=>
     rw[Bool.not_false,cond_true,q1,Option.bind_some];cases q with
     |true=>simp only[Bool.not_true,cond_false,Option.bind_some,JO.run,gZ,cond_true];rw[aC (by omega) (by omega)];rfl
     |false=>
      have na:(a:Int)∉M.hostFree (M.hostShare h):=λc=>by have:=p2.2 c;cases this
      have nb:(b:Int)∉M.hostFree (M.hostShare h):=λc=>by have:=q2.2 c;cases this
      rw[ef]at na nb;have hne:M.page h.Words a≠M.page h.Words b:=λe=>by have:=aIv hk (aVn ha na) (aVn (by omega) nb) e;omega
      have ea:List.take (Int.toNat (w64 ((w64 ((a:Int)+1))*8))-Int.toNat (w64 ((a:Int)*8))) (List.drop (Int.toNat (w64 ((a:Int)*8))) h.Words)=M.page h.Words a:=(by unfold M.page;rw[aC (z:=(a:Int)+1) (by omega) (by omega),aC (z:=((a:Int)+1)*8) (by omega) (by omega),aC (z:=(a:Int)*8) (by omega) (by omega),show Int.toNat (((a:Int)+1)*8)-Int.toNat ((a:Int)*8)=8 by omega,show Int.toNat ((a:Int)*8)=a*8 by omega]);have eb:List.take (Int.toNat (w64 ((w64 ((b:Int)+1))*8))-Int.toNat (w64 ((b:Int)*8))) (List.drop (Int.toNat (w64 ((b:Int)*8))) h.Words)=M.page h.Words b:=(by unfold M.page;rw[aC (z:=(b:Int)+1) (by omega) (by omega),aC (z:=((b:Int)+1)*8) (by omega) (by omega),aC (z:=(b:Int)*8) (by omega) (by omega),show Int.toNat (((b:Int)+1)*8)-Int.toNat ((b:Int)*8)=8 by omega,show Int.toNat ((b:Int)*8)=b*8 by omega]);have la:(M.page h.Words a).length=8:=(by unfold M.page;exact kJ (by omega));rw[Bool.not_false,cond_true,ea,eb,jT (by omega),decide_eq_false hne];rw[aC (z:=(a:Int)+1) (by omega) (by omega),aC (z:=((a:Int)+1)*8) (by omega) (by omega),aC (z:=(a:Int)*8) (by omega) (by omega),aC (z:=(b:Int)+1) (by omega) (by omega),aC (z:=((b:Int)+1)*8) (by omega) (by omega),aC (z:=(b:Int)*8) (by omega) (by omega),aD ⟨by omega,by omega,by omega⟩,aD ⟨by omega,by omega,by omega⟩];simp only[cond_false,Option.bind_some,JO.run,gZ,cond_true];rw[aC (by omega) (by omega)];rfl) (λ_=>by
    simp only[fC];rw[decide_eq_false (by omega),cond_false])
   rw[Bool.cond_self]at key;exact key
  have key:=iB (n:=20) (step:=hM (M.hostShare h) (M.hostFree (M.hostShare h))) (λa=>(a:Int)) (λ_=>true) (JO.go ()) (.out false) (λa ha _=>by
   simp only[hM];rw[decide_eq_true (p:=(a:Int)<20) (by omega),cond_true,inner a ha];simp only[Option.bind_some,LO.val,JO.run,rG,cond_true];rw[aC (by omega) (by omega)];rfl) (λ_=>by
   simp only[hM];rfl)
  rw[show(List.range 20).all (λ_=>true)=true by simp,cond_true]at key;rw[show(0:Int)=((0:Nat):Int)from rfl,key];simp only[Option.bind_some,LO.val,JO.run,sX];rw[pU hz,Option.bind_some,ok,cond_true,aMj hs hz λk hk3 _=>aZs hs hk hk3,Option.bind_some,cond_true,xP hs,Option.bind_some,decide_eq_true (by have:=bAg hk;omega),cond_true,aBi hz,Option.bind_some,aVw hk,wT hz];exact Ex.ret rfl
theorem aQh{xs:List Int}(hx:∀x∈xs,0<=x/\x<=255):iF xs=some true:=by obtain⟨_,h,rfl⟩:=aQn hx;exact h
end Go.Proofs.Ytkjabgefacfpfaa
namespace Go.Proofs.Ytkjabgefacfpfaa
set_option linter.all false
theorem bAd{xs:List Int}(hx:∀x∈xs,0<=x/\x<=255):Ex (eY xs) (λh=>SmallH h):=by unfold eY;refine Ex.bind (bEy hx) λr R=>?_;exact Ex.bind (bDu R (by omega) (by omega)) λv ⟨_,hs⟩=>Ex.ret hs
theorem aTk{xs:List Int}(hx:∀x∈xs,0<=x/\x<=255):Ex (jD xs) (λb=>b=true):=by
 have al:Ex (Option.bind kB λv=>some v) (λb=>b=true):=Ex.bind (aXi (Q:=λb=>b=true) rfl) λb hb=>Ex.ret hb;unfold jD;refine Ex.cond (λ_=>Ex.ret rfl) λ_=>?_;refine Ex.bind (bAd hx) λh hs=>?_;have hz:=aIw hs;rw[aMh hs,Option.bind_some,aLk hs,Option.bind_some,wT hz,Option.bind_some,Bool.not_true,cond_false,pU hs,Option.bind_some];cases hk:M.hostOk h with
 |false=>have:M.hostZero h=⟨[],[]⟩:=(by unfold M.hostZero;rw[hk];rfl);rw[this];exact al
 |true=>
  have kk:=dJ.1 hk;have h3:=kk.three;have ok:=aBe hk;have eg:(M.hostZero h).Guests=h.Guests.map (M.mapG (M.zeroS h.Words)):=(by rw[uW hk]);have g3:(M.hostZero h).Guests.length=3:=(dJ.1 ok).three;rw[Bool.not_true,cond_false]
  have inner:∀k:Nat,k<3->iter (fO h (M.hostZero h) (k:Int)) 0=some (.ret (.go ())):=λk hk3=>by
   have hpl:=(dC (List.all_eq_true.1 kk.all _ (dB (xs:=h.Guests) (k:=k) (by omega)))).2;have at_:(M.hostZero h).Guests.getD k default=M.mapG (M.zeroS h.Words) (h.Guests.getD k default):=by rw[eg];exact aUp (by omega)
   have key:=iB (n:=(h.Guests.getD k default).Pages.length) (step:=fO h (M.hostZero h) (k:Int)) (λj=>(j:Int)) (λ_=>true) (JO.go ()) (.go ()) (λj hj _=>by
    have es:((M.hostZero h).Guests.getD k default).Pages.getD j default=M.zeroS h.Words ((h.Guests.getD k default).Pages.getD j default):=(by rw[at_];exact aVp hj);have el:((M.hostZero h).Guests.getD k default).Pages.length=(h.Guests.getD k default).Pages.length:=(by rw[at_];exact List.length_map _);simp only[fO,Int.toNat_natCast,es,bAl,beq_self_eq_true];rw[aD ⟨by omega,by omega⟩,decide_eq_true (p:=(j:Int)<_) (by omega),cond_true,aD ⟨by omega,by omega⟩,aD ⟨by omega,by omega⟩,aD ⟨by omega,by omega⟩,aD ⟨by omega,by omega⟩,aC (by omega) (by omega)];rfl) (λ_=>by
    simp only[fO,Int.toNat_natCast];rw[aD ⟨by omega,by omega⟩,decide_eq_false (by omega),cond_false])
   rw[Bool.cond_self]at key;exact key
  have key:=iB (n:=3) (step:=iJ h (M.hostZero h)) (λk=>(k:Int)) (λ_=>true) (JO.go ()) (.out false) (λk hk3 _=>by
   simp only[iJ];rw[decide_eq_true (p:=(k:Int)<3) (by omega),cond_true,inner k hk3];simp only[Option.bind_some,LO.val,JO.run,sU,cond_true];rw[aC (by omega) (by omega)];rfl) (λ_=>by
   simp only[iJ];rfl)
  rw[show(List.range 3).all (λ_=>true)=true by simp,cond_true]at key;rw[show(0:Int)=((0:Nat):Int)from rfl,key];simp only[Option.bind_some,LO.val,JO.run,tP];rw[pU hz,Option.bind_some,ok,cond_true,aMj hs hz λk hk3 _=>bDl hs hk hk3,Option.bind_some,cond_true,xP hz,Option.bind_some,xP hs,Option.bind_some,decide_eq_true (by have:=bEt hk;omega)];exact Ex.ret rfl
theorem aSr{xs:List Int}(hx:∀x∈xs,0<=x/\x<=255):jD xs=some true:=by obtain⟨_,h,rfl⟩:=aTk hx;exact h
end Go.Proofs.Ytkjabgefacfpfaa
