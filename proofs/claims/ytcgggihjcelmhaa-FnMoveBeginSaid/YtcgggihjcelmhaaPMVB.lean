/- The plain functions: what they answer. -/
import Derived.Test.YtcgggihjcelmhaaPUW
import Derived.Test.YtcgggihjcelmhaaWFMB1
import Derived.Test.YtcgggihjcelmhaaZY
namespace Go.Proofs.Ytcgggihjcelmhaa
set_option linter.all false
namespace M
def reg(c:DCore)(k:Int):Int:=c.Regs.getD k.toNat default
def trap(c:DCore)(src cause bad:Int):DCore:=⟨c.Regs,c.Vector,c.Root,c.Vector,src,c.User,cause,bad,c.Timer,c.Waits,false,false,c.Stopped⟩
def tick(c:DCore):DCore:=bif decide (c.Timer=0)then c else⟨c.Regs,c.Pc,c.Root,c.Vector,c.Saved,c.SavedUser,c.Cause,c.Bad,c.Timer-1,(bif decide (c.Timer-1=0)then true else c.Waits),c.User,c.On,c.Stopped⟩
def ins(w:Int):DIns:=⟨w/256,w/64%4,w%64⟩
def kern(op:Int):Bool:=decide (op=0)||inR 8 14 op
def at_(c:DCore)(pc:Int):DCore:=⟨c.Regs,pc,c.Root,c.Vector,c.Saved,c.SavedUser,c.Cause,c.Bad,c.Timer,c.Waits,c.User,c.On,c.Stopped⟩
def go(c:DCore):DCore:=at_ c ((c.Pc+1)%64)
def put(c:DCore)(a w:Int):DCore:=⟨c.Regs.set a.toNat w,c.Pc,c.Root,c.Vector,c.Saved,c.SavedUser,c.Cause,c.Bad,c.Timer,c.Waits,c.User,c.On,c.Stopped⟩
def with_(b:DBare)(c:DCore):DBare:=⟨c,b.Mem,b.In,b.Out⟩
def root(w:Int):Int:=bif decide (w%16<8)then w%16 else-1
def first(xs:List Int):Int:=xs.getD 0 default
def cin(b:DBare)(k:Int):Int:=bif decide (k=1)then b.C.Cause else bif decide (k=2)then b.C.Bad else bif decide (k=3)then b.C.Saved else first b.In
def rest(xs:List Int)(k:Int):List Int:=bif decide (k=0)then xs.drop 1 else xs
def kdo(b:DBare)(i:DIns):DBare:=
 bif decide (i.Op=0)then with_ b ⟨b.C.Regs,b.C.Pc,b.C.Root,b.C.Vector,b.C.Saved,b.C.SavedUser,b.C.Cause,b.C.Bad,b.C.Timer,b.C.Waits,b.C.User,b.C.On,true⟩
 else bif decide (i.Op=8)then with_ b (go ⟨b.C.Regs,b.C.Pc,root (reg b.C i.A),b.C.Vector,b.C.Saved,b.C.SavedUser,b.C.Cause,b.C.Bad,b.C.Timer,b.C.Waits,b.C.User,b.C.On,b.C.Stopped⟩)
 else bif decide (i.Op=9)then with_ b (go ⟨b.C.Regs,b.C.Pc,b.C.Root,reg b.C i.A%64,b.C.Saved,b.C.SavedUser,b.C.Cause,b.C.Bad,b.C.Timer,b.C.Waits,b.C.User,b.C.On,b.C.Stopped⟩)
 else bif decide (i.Op=10)then with_ b (go ⟨b.C.Regs,b.C.Pc,b.C.Root,b.C.Vector,b.C.Saved,b.C.SavedUser,b.C.Cause,b.C.Bad,reg b.C i.A,b.C.Waits,b.C.User,b.C.On,b.C.Stopped⟩)
 else bif decide (i.Op=11)then with_ b ⟨b.C.Regs,b.C.Saved,b.C.Root,b.C.Vector,b.C.Saved,b.C.SavedUser,b.C.Cause,b.C.Bad,b.C.Timer,b.C.Waits,b.C.SavedUser,true,b.C.Stopped⟩
 else bif decide (i.Op=12)then with_ b (go ⟨b.C.Regs,b.C.Pc,b.C.Root,b.C.Vector,b.C.Saved,b.C.SavedUser,b.C.Cause,b.C.Bad,b.C.Timer,b.C.Waits,b.C.User,decide (i.N%2=1),b.C.Stopped⟩)
 else bif decide (i.Op=13)then⟨go b.C,b.Mem,b.In,bif decide (b.Out.length<30)then b.Out++[reg b.C i.A]else b.Out⟩
 else⟨go (put b.C i.A (cin b (i.N%4))),b.Mem,rest b.In (i.N%4),b.Out⟩
def plain(c:DCore)(i:DIns):DCore:=
 bif decide (i.Op=1)then go (put c i.A i.N)
 else bif decide (i.Op=2)then go (put c i.A ((reg c i.A+reg c (i.N%4))%4096))
 else bif decide (i.Op=15)then go (put c i.A ((reg c i.A-reg c (i.N%4)+4096)%4096))
 else bif decide (i.Op=5)then at_ c i.N
 else bif decide (i.Op=6)then bif decide (reg c i.A=0)then go c else at_ c i.N
 else trap c ((c.Pc+1)%64) 1 0
def mdo(b:DBare)(i:DIns):DBare:=
 bif decide (walk b.Mem b.C.Root (reg b.C (i.N%4)%64) b.C.User (decide (i.Op=4))=-1)then with_ b (trap b.C b.C.Pc 2 (reg b.C (i.N%4)%64))
 else bif decide (i.Op=3)then with_ b (go (put b.C i.A (b.Mem.getD (walk b.Mem b.C.Root (reg b.C (i.N%4)%64) b.C.User false).toNat default)))
 else⟨go b.C,b.Mem.set (walk b.Mem b.C.Root (reg b.C (i.N%4)%64) b.C.User true).toNat (reg b.C i.A),b.In,b.Out⟩
def did(b:DBare)(i:DIns):DBare:=
 bif kern i.Op then bif b.C.User then with_ b (trap b.C b.C.Pc 3 0)else kdo b i
 else bif decide (i.Op=3)||decide (i.Op=4)then mdo b i else with_ b (plain b.C i)
def quiet(c:DCore):DCore:=⟨c.Regs,c.Pc,c.Root,c.Vector,c.Saved,c.SavedUser,c.Cause,c.Bad,c.Timer,false,c.User,c.On,c.Stopped⟩
def step(b:DBare):DBare:=
 bif b.C.Stopped then b
 else bif (tick b.C).Waits&&(tick b.C).On then with_ b (trap (quiet (tick b.C)) (tick b.C).Pc 4 0)
 else bif decide (walk b.Mem (tick b.C).Root (tick b.C).Pc (tick b.C).User false=-1)then with_ b (trap (tick b.C) (tick b.C).Pc 2 (tick b.C).Pc)
 else did (with_ b (tick b.C)) (ins (b.Mem.getD (walk b.Mem (tick b.C).Root (tick b.C).Pc (tick b.C).User false).toNat default))
end M
theorem bCo{w:Int}(h0:0<=w)(h1:w<=4095):M.insOk (M.ins w)=true:=by simp only[M.insOk,M.ins,bA,M.inR_iff];omega
structure BOk (b : DBare) : Prop where
 regs:b.C.Regs.length=4
 words:M.wordsOk b.C.Regs=true
 pc:0<=b.C.Pc/\b.C.Pc<=63
 vec:0<=b.C.Vector/\b.C.Vector<=63
 sav:0<=b.C.Saved/\b.C.Saved<=63
 bad:0<=b.C.Bad/\b.C.Bad<=63
 root:-1<=b.C.Root/\b.C.Root<=7
 cause:0<=b.C.Cause/\b.C.Cause<=4
 timer:0<=b.C.Timer/\b.C.Timer<=4095
 mem:M.memOk b.Mem=true
 inn:b.In.length<=30
 inw:M.wordsOk b.In=true
 out:b.Out.length<=30
 outw:M.wordsOk b.Out=true
theorem aVv{b:DBare}:M.bareOk b=true↔BOk b:=by
 simp only[M.bareOk,M.coreOk,M.rowOk,M.wordOk,bA,decide_eq_true_eq,M.inR_iff];constructor
 · rintro⟨⟨⟨⟨⟨⟨⟨⟨a1,a2⟩,⟨⟨a3,a4⟩,a5⟩,a6⟩,a7⟩,a8⟩,a9⟩,a10⟩,a11,a12⟩,a13,a14⟩
   exact⟨a1,a2,a3,a4,a5,a6,a7,a8,a9,a10,a11,a12,a13,a14⟩
 · rintro⟨a1,a2,a3,a4,a5,a6,a7,a8,a9,a10,a11,a12,a13,a14⟩
   exact⟨⟨⟨⟨⟨⟨⟨⟨a1,a2⟩,⟨⟨a3,a4⟩,a5⟩,a6⟩,a7⟩,a8⟩,a9⟩,a10⟩,a11,a12⟩,a13,a14⟩
theorem BOk.len{b:DBare}(h:BOk b):b.Mem.length=64:=aLx h.mem
theorem BOk.reg{b:DBare}(h:BOk b){k:Int}(h0:0<=k)(h1:k<4):0<=M.reg b.C k/\M.reg b.C k<=4095:=rM h.words (by have:=h.regs;omega)
structure KOk (b : DBare) : Prop where
 regs:b.C.Regs.length=4
 words:M.wordsOk b.C.Regs=true
 pc:0<=b.C.Pc/\b.C.Pc<=63
 vec:0<=b.C.Vector/\b.C.Vector<=63
 sav:0<=b.C.Saved/\b.C.Saved<=63
 bad:0<=b.C.Bad/\b.C.Bad<=63
 root:-1<=b.C.Root/\b.C.Root<=7
 cause:0<=b.C.Cause/\b.C.Cause<=4
 timer:0<=b.C.Timer/\b.C.Timer<=4095
 inn:b.In.length<=30
 inw:M.wordsOk b.In=true
 out:b.Out.length<=30
 outw:M.wordsOk b.Out=true
theorem BOk.k{b:DBare}(h:BOk b):KOk b:=⟨h.regs,h.words,h.pc,h.vec,h.sav,h.bad,h.root,h.cause,h.timer,h.inn,h.inw,h.out,h.outw⟩
theorem KOk.reg{b:DBare}(h:KOk b){k:Int}(h0:0<=k)(h1:k<4):0<=M.reg b.C k/\M.reg b.C k<=4095:=rM h.words (by have:=h.regs;omega)
theorem KOk.to{b b':DBare}(h:KOk b)(h1:b'.C=b.C)(h2:b'.In=b.In)(h3:b'.Out=b.Out):KOk b':=by obtain⟨c,m,i,o⟩:=b';simp only at h1 h2 h3;subst h1 h2 h3;exact⟨h.regs,h.words,h.pc,h.vec,h.sav,h.bad,h.root,h.cause,h.timer,h.inn,h.inw,h.out,h.outw⟩
section
variable {b : DBare} {op a n : Int}
theorem KOk.gA(hb:KOk b)(h0:0<=a)(h1:a<=3):0<=a/\a<((b.C.Regs.length:Nat):Int):=by have:=hb.regs;omega
end
namespace M
def bNa:DCore:=⟨[],0,0,0,0,false,0,0,0,false,false,false,false⟩
def zero:DBare:=⟨bNa,[],[],[]⟩
end M
section
variable {b : DBare} {op a n : Int}
theorem BOk.tick(hb:BOk b):BOk (M.with_ b (M.tick b.C)):=by have ht:=hb.timer;unfold M.tick;by_cases e:b.C.Timer=0;{rw[dT e];exact⟨hb.regs,hb.words,hb.pc,hb.vec,hb.sav,hb.bad,hb.root,hb.cause,hb.timer,hb.mem,hb.inn,hb.inw,hb.out,hb.outw⟩};{rw[dF e];exact⟨hb.regs,hb.words,hb.pc,hb.vec,hb.sav,hb.bad,hb.root,hb.cause,⟨by show 0<=b.C.Timer-1;omega,by show b.C.Timer-1<=4095;omega⟩,hb.mem,hb.inn,hb.inw,hb.out,hb.outw⟩}
theorem aGx(hb:BOk b){z:Int}(h0:0<=z)(h1:z<64):0<=b.Mem.getD z.toNat default/\b.Mem.getD z.toNat default<=4095:=rM (aFp hb.mem) (by have:=hb.len;omega)
theorem bHj(b:DBare)(i:DIns):(M.kdo b i).Mem=b.Mem:=by unfold M.kdo;cases decide (i.Op=0)<;>cases decide (i.Op=8)<;>cases decide (i.Op=9)<;>cases decide (i.Op=10)<;>cases decide (i.Op=11)<;>cases decide (i.Op=12)<;>cases decide (i.Op=13)<;>rfl
theorem BOk.trap(hb:BOk b){src cause bad:Int}(h1:0<=src/\src<=63)(h2:0<=cause/\cause<=4)(h3:0<=bad/\bad<=63):BOk (M.with_ b (M.trap b.C src cause bad)):=⟨hb.regs,hb.words,hb.vec,hb.vec,h1,h3,hb.root,h2,hb.timer,hb.mem,hb.inn,hb.inw,hb.out,hb.outw⟩
theorem BOk.at_(hb:BOk b){pc:Int}(h:0<=pc/\pc<=63):BOk (M.with_ b (M.at_ b.C pc)):=⟨hb.regs,hb.words,h,hb.vec,hb.sav,hb.bad,hb.root,hb.cause,hb.timer,hb.mem,hb.inn,hb.inw,hb.out,hb.outw⟩
theorem BOk.go(hb:BOk b):BOk (M.with_ b (M.go b.C)):=hb.at_ (by omega)
theorem BOk.put(hb:BOk b){w:Int}(h:0<=w/\w<=4095):BOk (M.with_ b (M.put b.C a w)):=⟨by show(b.C.Regs.set _ _).length=4;rw[lS];exact hb.regs,xE hb.words h.1 h.2,hb.pc,hb.vec,hb.sav,hb.bad,hb.root,hb.cause,hb.timer,hb.mem,hb.inn,hb.inw,hb.out,hb.outw⟩
theorem aTn{xs:List Int}{w:Int}(h:M.wordsOk xs=true)(hw:0<=w/\w<=4095):M.wordsOk (xs++[w])=true:=by refine List.all_eq_true.2 λx hx=>?_;rcases List.mem_append.1 hx with h1|h1;{exact List.all_eq_true.1 h x h1};{rw[List.mem_singleton.1 h1];exact M.inR_iff.2 hw}
theorem aPz{xs:List Int}(h:M.wordsOk xs=true):M.wordsOk (xs.drop 1)=true:=List.all_eq_true.2 λx hx=>List.all_eq_true.1 h x (List.mem_of_mem_drop hx)
theorem bEo{xs:List Int}(h:M.wordsOk xs=true):0<=M.first xs/\M.first xs<=4095:=by
 (cases xs with|nil=>exact⟨by decide,by decide⟩|cons x xs=>exact M.inR_iff.1 (List.all_eq_true.1 h x (List.mem_cons_self ..)))
theorem bLn(hb:BOk b){k:Int}:0<=M.cin b k/\M.cin b k<=4095:=by have h1:=hb.cause;have h2:=hb.bad;have h3:=hb.sav;have h4:=bEo hb.inw;unfold M.cin;cases decide (k=1)<;>cases decide (k=2)<;>cases decide (k=3)<;>simp only[cTq,cFq]<;>omega
theorem bMd(hb:BOk b)(a0:0<=a)(a1:a<=3):BOk (M.kdo b ⟨op,a,n⟩):=by
 have g:=hb.reg a0 (by omega);unfold M.kdo;simp only;cases decide (op=0)with
 |true=>exact⟨hb.regs,hb.words,hb.pc,hb.vec,hb.sav,hb.bad,hb.root,hb.cause,hb.timer,hb.mem,hb.inn,hb.inw,hb.out,hb.outw⟩
 |false=>
 cases decide (op=8)with
 |true=>have hr:-1<=M.root (M.reg b.C a)/\M.root (M.reg b.C a)<=7:=(by unfold M.root;by_cases e:M.reg b.C a%16<8;{rw[dT e,cTq];omega};{rw[dF e,cFq];omega});exact BOk.go (b:=M.with_ b ⟨b.C.Regs,b.C.Pc,M.root (M.reg b.C a),b.C.Vector,b.C.Saved,b.C.SavedUser,b.C.Cause,b.C.Bad,b.C.Timer,b.C.Waits,b.C.User,b.C.On,b.C.Stopped⟩) ⟨hb.regs,hb.words,hb.pc,hb.vec,hb.sav,hb.bad,hr,hb.cause,hb.timer,hb.mem,hb.inn,hb.inw,hb.out,hb.outw⟩
 |false=>
 cases decide (op=9)with
 |true=>exact BOk.go (b:=M.with_ b ⟨b.C.Regs,b.C.Pc,b.C.Root,M.reg b.C a%64,b.C.Saved,b.C.SavedUser,b.C.Cause,b.C.Bad,b.C.Timer,b.C.Waits,b.C.User,b.C.On,b.C.Stopped⟩) ⟨hb.regs,hb.words,hb.pc,by show 0<=M.reg b.C a%64/\M.reg b.C a%64<=63;omega,hb.sav,hb.bad,hb.root,hb.cause,hb.timer,hb.mem,hb.inn,hb.inw,hb.out,hb.outw⟩
 |false=>
 cases decide (op=10)with
 |true=>exact BOk.go (b:=M.with_ b ⟨b.C.Regs,b.C.Pc,b.C.Root,b.C.Vector,b.C.Saved,b.C.SavedUser,b.C.Cause,b.C.Bad,M.reg b.C a,b.C.Waits,b.C.User,b.C.On,b.C.Stopped⟩) ⟨hb.regs,hb.words,hb.pc,hb.vec,hb.sav,hb.bad,hb.root,hb.cause,g,hb.mem,hb.inn,hb.inw,hb.out,hb.outw⟩
 |false=>
 cases decide (op=11)with
 |true=>exact⟨hb.regs,hb.words,hb.sav,hb.vec,hb.sav,hb.bad,hb.root,hb.cause,hb.timer,hb.mem,hb.inn,hb.inw,hb.out,hb.outw⟩
 |false=>
 cases decide (op=12)with
 |true=>exact BOk.go (b:=M.with_ b ⟨b.C.Regs,b.C.Pc,b.C.Root,b.C.Vector,b.C.Saved,b.C.SavedUser,b.C.Cause,b.C.Bad,b.C.Timer,b.C.Waits,b.C.User,decide (n%2=1),b.C.Stopped⟩) ⟨hb.regs,hb.words,hb.pc,hb.vec,hb.sav,hb.bad,hb.root,hb.cause,hb.timer,hb.mem,hb.inn,hb.inw,hb.out,hb.outw⟩
 |false=>
 have h:=hb.go;(cases decide (op=13)with|true=>simp only[cTq,cFq];by_cases e:b.Out.length<30;{rw[dT e];exact⟨h.regs,h.words,h.pc,h.vec,h.sav,h.bad,h.root,h.cause,h.timer,h.mem,h.inn,h.inw,by show(b.Out++[_]).length<=30;simp only[List.length_append,List.length_cons,List.length_nil];omega,aTn hb.outw g⟩};{rw[dF e];exact h}|false=>simp only[cFq];have h:=(hb.put (a:=a) (bLn hb (k:=n%4))).go;refine⟨h.regs,h.words,h.pc,h.vec,h.sav,h.bad,h.root,h.cause,h.timer,h.mem,?_,?_,h.out,h.outw⟩;{show(M.rest b.In (n%4)).length<=30;have:=hb.inn;unfold M.rest;cases decide (n%4=0)<;>simp only[cTq,cFq,List.length_drop]<;>omega};{show M.wordsOk (M.rest b.In (n%4))=true;unfold M.rest;cases decide (n%4=0);{exact hb.inw};{exact aPz hb.inw}})
theorem bGh(hb:BOk b)(a0:0<=a)(a1:a<=3)(n0:0<=n)(n1:n<=63):BOk (M.with_ b (M.plain b.C ⟨op,a,n⟩)):=by
 have hp:=hb.pc;unfold M.plain;simp only;cases decide (op=1)with
 |true=>exact(hb.put (a:=a) (w:=n) (by omega)).go
 |false=>
 cases decide (op=2)with
 |true=>exact(hb.put (a:=a) (w:=(M.reg b.C a+M.reg b.C (n%4))%4096) (by omega)).go
 |false=>
 cases decide (op=15)with
 |true=>exact(hb.put (a:=a) (w:=(M.reg b.C a-M.reg b.C (n%4)+4096)%4096) (by omega)).go
 |false=>
 cases decide (op=5)with
 |true=>exact hb.at_ ⟨n0,n1⟩
 |false=>
 (cases decide (op=6)with|true=>(cases decide (M.reg b.C a=0)with|true=>exact hb.go|false=>exact hb.at_ ⟨n0,n1⟩)|false=>exact hb.trap (src:=(b.C.Pc+1)%64) (cause:=1) (bad:=0) (by omega) (by omega) (by omega))
theorem bBk(hb:BOk b)(a0:0<=a)(a1:a<=3)(n0:0<=n)(ho:op=3\/op=4):BOk (M.mdo b ⟨op,a,n⟩):=by have g:=hb.reg a0 (by omega);unfold M.mdo;simp only;by_cases h:M.walk b.Mem b.C.Root (M.reg b.C (n%4)%64) b.C.User (decide (op=4))=-1;{rw[dT h];exact hb.trap (src:=b.C.Pc) (cause:=2) (bad:=M.reg b.C (n%4)%64) hb.pc (by omega) (by omega)};{have hw:=aDk _ _ _ _ _ h;rw[dF h];rcases ho with rfl|rfl;{simp only[Int.reduceEq,decide_false]at hw;exact(hb.put (a:=a) (aGx hb hw.1 hw.2)).go};{have h2:=hb.go;refine⟨h2.regs,h2.words,h2.pc,h2.vec,h2.sav,h2.bad,h2.root,h2.cause,h2.timer,?_,h2.inn,h2.inw,h2.out,h2.outw⟩;show M.memOk (b.Mem.set _ _)=true;simp only[M.memOk,lS,hb.len,decide_true,Bool.true_and];exact xE (aFp hb.mem) g.1 g.2}}
theorem bMk(hb:BOk b){i:DIns}(hi:M.insOk i=true):BOk (M.did b i):=by obtain⟨op,a,n⟩:=i;simp only[M.insOk,bA,M.inR_iff]at hi;obtain⟨⟨⟨o0,o1⟩,a0,a1⟩,n0,n1⟩:=hi;unfold M.did;simp only;(cases M.kern op with|true=>(cases b.C.User with|true=>exact hb.trap (src:=b.C.Pc) (cause:=3) (bad:=0) hb.pc (by omega) (by omega)|false=>exact bMd hb a0 a1)|false=>by_cases h3:op=3;{rw[dT h3];exact bBk hb a0 a1 n0 (.inl h3)};{by_cases h4:op=4;{rw[dT h4,Bool.or_true];exact bBk hb a0 a1 n0 (.inr h4)};{rw[dF h3,dF h4];exact bGh hb a0 a1 n0 n1}})
theorem bHk(hb:BOk b):BOk (M.step b):=by
 have ht:=hb.tick;unfold M.step;cases b.C.Stopped with
 |true=>exact hb
 |false=>
 cases(M.tick b.C).Waits&&(M.tick b.C).On with
 |true=>have hq:BOk (M.with_ b (M.quiet (M.tick b.C))):=⟨ht.regs,ht.words,ht.pc,ht.vec,ht.sav,ht.bad,ht.root,ht.cause,ht.timer,ht.mem,ht.inn,ht.inw,ht.out,ht.outw⟩;exact hq.trap (src:=(M.tick b.C).Pc) (cause:=4) (bad:=0) ht.pc (by omega) (by omega)
 |false=>
 simp only[cFq];by_cases h:M.walk b.Mem (M.tick b.C).Root (M.tick b.C).Pc (M.tick b.C).User false=-1;{rw[dT h];exact ht.trap (src:=(M.tick b.C).Pc) (cause:=2) (bad:=(M.tick b.C).Pc) ht.pc (by omega) ht.pc};{have hw:=aDk _ _ _ _ _ h;have hm:=aGx hb hw.1 hw.2;rw[dF h];exact bMk ht (bCo hm.1 hm.2)}
theorem BOk.small(hb:BOk b):SmallB b:=⟨⟨by have:=hb.regs;omega⟩,by have:=hb.len;omega,by have:=hb.inn;omega,by have:=hb.out;omega⟩
end
namespace M
def sLets(s:DShade)(user write:Bool):Bool:=s.There&&(s.Write||!write)&&(s.User||!user)
def place(s:DShade)(addr:Int)(user write:Bool):Int×Int:=bif !sLets s user write then(-1,1)else bif decide (s.Frame=-1)then(-1,2)else bif write&&!s.Ready then(-1,3)else(s.Frame*8+addr%8,0)
end M
theorem bHy{h:DHost}{g:Int}{x:DGuest}(l:Live h g x):M.bareOk ⟨x.C,M.mem h.Words x.Pages,x.In,x.Out⟩=true:=by
 have hk:=l.ok;unfold M.bareOk M.memOk;simp only[bA,decide_eq_true_eq];refine⟨⟨⟨l.core,cH,?_⟩,l.inn⟩,l.out⟩;simp only[M.wordsOk,List.all_eq_true,M.mem,List.mem_map,List.mem_range]
 rintro w ⟨a,ha,rfl⟩
 unfold M.word M.wordOk;rw[M.inR_iff];have hr:=aBw l.slots (i:=a/8) (by rw[l.pages];omega);split;{omega};{exact rM hk.words (by rw[hk.len];omega)}
namespace M
def vw(ws:List Int)(x:DGuest):DBare:=⟨x.C,mem ws x.Pages,x.In,x.Out⟩
def mach(x:DGuest):DBare:=⟨x.C,[],x.In,x.Out⟩
def withM(h:DHost)(g:Int)(x:DGuest)(b:DBare):DHost:=⟨h.Words,h.Guests.set g.toNat ⟨x.Live,b.C,x.Pages,b.In,b.Out⟩⟩
def busy(c:DCore):Bool:=c.Stopped||((tick c).Waits&&(tick c).On)
def wpc(b:DBare):Int:=walk b.Mem b.C.Root b.C.Pc b.C.User false
def inst(b:DBare):DIns:=ins (b.Mem.getD (wpc b).toNat default)
def adr(b:DBare):Int:=reg b.C ((inst b).N%4)%64
def isSt(b:DBare):Bool:=decide ((inst b).Op=4)
def wad(b:DBare):Int:=walk b.Mem b.C.Root (adr b) b.C.User (isSt b)
def reads(b:DBare):Bool:=!busy b.C&&!decide (wpc b=-1)
def comes(b:DBare):Bool:=reads b&&(decide ((inst b).Op=3)||isSt b)&&!decide (wad b=-1)
def lackS(s:DSlot)(w:Bool):Bool:=decide (s.Frame=-1)||(w&&!s.Write)
def one(b:Bool):Nat:=bif b then 1 else 0
def cnt(ps:List DSlot)(b:DBare):Nat:=one (reads b&&lackS (ps.getD (wpc b/8).toNat default) false)+one (comes b&&lackS (ps.getD (wad b/8).toNat default) (isSt b))
def e0:DExit:=⟨0,0,⟨0,0,0⟩⟩
def bGz(s:DShade)(why:Int):DExit:=bif decide (why=2)then⟨2,s.Page,⟨0,0,0⟩⟩else bif decide (why=3)then⟨3,s.Page,⟨0,0,0⟩⟩else e0
def shadeAt(ws:List Int)(x:DGuest)(a:Int):DShade:=shade ws x (a/8).toNat
def placeAt(ws:List Int)(x:DGuest)(a:Int)(w:Bool):Int×Int:=place (shadeAt ws x a) a x.C.User w
def iExit(ws:List Int)(x:DGuest)(i:DIns):DExit:=
 bif kern i.Op&&!x.C.User then⟨1,0,i⟩
 else bif decide (i.Op=3)||decide (i.Op=4)then bGz (shadeAt ws x (reg x.C (i.N%4)%64)) (placeAt ws x (reg x.C (i.N%4)%64) (decide (i.Op=4))).2
 else e0
def xExit(ws:List Int)(x:DGuest):DExit:=
 bif busy x.C then e0
 else bif !decide ((placeAt ws x x.C.Pc false).2=0)then bGz (shadeAt ws x x.C.Pc) (placeAt ws x x.C.Pc false).2
 else iExit ws x (ins (ws.getD (placeAt ws x x.C.Pc false).1.toNat default))
noncomputable def guestExit (h:DHost)(g:Int):DExit:=bif there h g then xExit h.Words (h.Guests.getD g.toNat default)else e0
def lacks(e:DExit):Bool:=decide (e.Why=2)||decide (e.Why=3)
noncomputable def answered (h:DHost)(g:Int)(e:DExit):DHost×Bool:=bif decide (e.Why=2)then hostFill h g e.Page else hostCopy h g e.Page
noncomputable def ready (g:Int):Nat->DHost->Option DHost
 |0,h=>some h
 |n+1,h=>bif lacks (guestExit h g)then(bif (answered h g (guestExit h g)).2 then ready g n (answered h g (guestExit h g)).1 else none)else some h
def wrote(b:DBare):Bool:=comes b&&isSt b
def dirty(x:DGuest)(p:Nat):DSlot:=⟨(x.Pages.getD p default).Frame,(x.Pages.getD p default).Write,true⟩
def ran(h:DHost)(g:Int)(x:DGuest):DHost:=
 bif wrote (vw h.Words x)then
  ⟨h.Words.set ((x.Pages.getD (wad (vw h.Words x)/8).toNat default).Frame*8+wad (vw h.Words x)%8).toNat (reg x.C (inst (vw h.Words x)).A),h.Guests.set g.toNat ⟨x.Live,(step (vw h.Words x)).C,x.Pages.set (wad (vw h.Words x)/8).toNat (dirty x (wad (vw h.Words x)/8).toNat),(step (vw h.Words x)).In,(step (vw h.Words x)).Out⟩⟩
 else withM h g x (step (vw h.Words x))
noncomputable def hostStep (h:DHost)(g:Int):DHost×Bool:=bif there h g then
 (match ready g 8 h with
 |some h'=>(ran h' g (h'.Guests.getD g.toNat default),true)
 |none=>(h,false))
 else(zeroH,false)
end M
section
variable (c : DCore)
theorem aVk:(M.tick c).Pc=c.Pc:=by unfold M.tick;cases decide (c.Timer=0)<;>rfl
theorem aLw:(M.tick c).Root=c.Root:=by unfold M.tick;cases decide (c.Timer=0)<;>rfl
theorem aLy:(M.tick c).User=c.User:=by unfold M.tick;cases decide (c.Timer=0)<;>rfl
theorem bCp:(M.tick c).Regs=c.Regs:=by unfold M.tick;cases decide (c.Timer=0)<;>rfl
theorem bEx(k:Int):M.reg (M.tick c) k=M.reg c k:=by unfold M.reg;rw[bCp]
end
section
variable {h : DHost} {g : Int} {x : DGuest}
theorem aNw(l:Live h g x):BOk (M.vw h.Words x):=aVv.1 (bHy l)
theorem aYe(l:Live h g x){a:Int}{w:Bool}(a0:0<=a)(a1:a<=63):
 M.walk (M.mem h.Words x.Pages) x.C.Root a x.C.User w=(bif M.sLets (M.shadeAt h.Words x a) x.C.User w then(M.shadeAt h.Words x a).Page*8+a%8 else-1):=by
 have hb:=aNw l;have hr:=bAm l.core;unfold M.walk;rw[show M.memOk (M.mem h.Words x.Pages)=true from hb.mem,M.inR_iff.2 hr,M.inR_iff.2 ⟨a0,a1⟩];simp only[Bool.and_self,cTq];by_cases e:x.C.Root=-1;{rw[dT e,cTq];have es:M.shadeAt h.Words x a=M.shadeFor x ⟨true,true,true,(((a/8).toNat:Nat):Int)⟩:=(by unfold M.shadeAt M.shade M.entry;rw[if_pos e]);rw[es];simp only[M.sLets,M.shadeFor,Bool.true_or,Bool.and_self,cTq];omega};{rw[dF e,cFq];have es:M.shadeAt h.Words x a=M.shadeFor x (dec ((M.mem h.Words x.Pages).getD (x.C.Root*8+a/8).toNat default)):=(by unfold M.shadeAt M.shade M.entry;rw[if_neg e,dQ (by omega),show(x.C.Root*8+a/8).toNat=x.C.Root.toNat*8+(a/8).toNat by omega]);rw[es];rfl}
theorem aJf(l:Live h g x){a:Int}{w:Bool}(a0:0<=a)(a1:a<=63){t:Int}(ht:M.walk (M.mem h.Words x.Pages) x.C.Root a x.C.User w=t):
 (t=-1/\M.placeAt h.Words x a w=(-1,1))\/
 (0<=t/\t<64/\(M.shadeAt h.Words x a).Page=t/8/\M.placeAt h.Words x a w=bif decide ((x.Pages.getD (t/8).toNat default).Frame=-1)then(-1,2)else bif w&&!(x.Pages.getD (t/8).toNat default).Write then(-1,3)else((x.Pages.getD (t/8).toNat default).Frame*8+t%8,0)):=by
 rw[aYe l a0 a1]at ht;have hp:=aYd l (p:=(a/8).toNat) (by omega);have e1:(M.shadeAt h.Words x a).Page=(M.entry h.Words x (a/8).toNat).Page:=rfl;unfold M.placeAt M.place;(cases hl:M.sLets (M.shadeAt h.Words x a) x.C.User w with|false=>rw[hl,cFq]at ht;exact .inl ⟨ht.symm,rfl⟩|true=>rw[hl,cTq]at ht;have e2:(M.shadeAt h.Words x a).Page=t/8:=(by omega);refine .inr ⟨by omega,by omega,e2,?_⟩;have e3:(M.shadeAt h.Words x a).Frame=(x.Pages.getD (t/8).toNat default).Frame:=(by rw[<-e2];rfl);have e4:(M.shadeAt h.Words x a).Ready=(x.Pages.getD (t/8).toNat default).Write:=(by rw[<-e2];rfl);rw[e3,e4,show t%8=a%8 by omega];rfl)
theorem bIi(l:Live h g x){t:Int}(t0:0<=t)(t1:t<64)(hf:(x.Pages.getD (t/8).toNat default).Frame≠-1):
 h.Words.getD ((x.Pages.getD (t/8).toNat default).Frame*8+t%8).toNat default=(M.mem h.Words x.Pages).getD t.toNat default:=by
 have hr:=cA l (p:=(t/8).toNat) (by omega);rw[dQ (by omega)];unfold M.word;rw[show t.toNat/8=(t/8).toNat by omega,if_neg (by omega)];congr 1;omega
theorem bFf{op:Int}(h:M.kern op=true):op≠3/\op≠4:=by constructor<;>rintro rfl<;>exact absurd h (by decide)
theorem aXm(b:DBare)(h:M.busy b.C=true):M.reads b=false/\M.comes b=false:=by unfold M.comes M.reads;rw[h];exact⟨rfl,rfl⟩
theorem aJp(l:Live h g x):
 ((M.xExit h.Words x).Why=2/\∃t,0<=t/\t<64/\(M.xExit h.Words x).Page=t/8/\(x.Pages.getD (t/8).toNat default).Frame=-1/\((M.reads (M.vw h.Words x)=true/\t=M.wpc (M.vw h.Words x))\/(M.comes (M.vw h.Words x)=true/\t=M.wad (M.vw h.Words x))))\/
 ((M.xExit h.Words x).Why=3/\∃t,0<=t/\t<64/\(M.xExit h.Words x).Page=t/8/\(x.Pages.getD (t/8).toNat default).Frame≠-1/\(x.Pages.getD (t/8).toNat default).Write=false/\M.comes (M.vw h.Words x)=true/\t=M.wad (M.vw h.Words x)/\M.isSt (M.vw h.Words x)=true)\/
 ((M.xExit h.Words x=M.e0\/(M.xExit h.Words x=⟨1,0,M.inst (M.vw h.Words x)⟩/\M.kern (M.inst (M.vw h.Words x)).Op=true/\x.C.User=false))/\M.cnt x.Pages (M.vw h.Words x)=0):=by
 have hb:=aNw l;unfold M.xExit;cases hbz:M.busy x.C with
 |true=>obtain⟨h1,h2⟩:=aXm (M.vw h.Words x) hbz;refine .inr (.inr ⟨.inl rfl,?_⟩);unfold M.cnt;rw[h1,h2];rfl
 |false=>
  rw[cFq];have hrd:M.reads (M.vw h.Words x)=!decide (M.wpc (M.vw h.Words x)=-1):=(by unfold M.reads;rw[show M.busy (M.vw h.Words x).C=false from hbz];rfl);rcases aJf l (a:=x.C.Pc) (w:=false) hb.pc.1 hb.pc.2 (t:=M.wpc (M.vw h.Words x)) rfl with⟨ht,hp⟩|⟨t0,t1,hpg,hp⟩;{have h1:M.reads (M.vw h.Words x)=false:=(by rw[hrd,dT (show M.wpc (M.vw h.Words x)=-1 from ht)];rfl);have h2:M.comes (M.vw h.Words x)=false:=(by unfold M.comes;rw[h1];rfl);rw[hp];refine .inr (.inr ⟨.inl rfl,?_⟩);unfold M.cnt;rw[h1,h2];rfl}
  · have h1:M.reads (M.vw h.Words x)=true:=by rw[hrd,dF (show¬M.wpc (M.vw h.Words x)=-1 by have:0<=M.wpc (M.vw h.Words x):=t0;omega)];rfl
    by_cases hf:(x.Pages.getD (M.wpc (M.vw h.Words x)/8).toNat default).Frame=-1;{rw[dT hf]at hp;rw[hp];exact .inl ⟨rfl,M.wpc (M.vw h.Words x),t0,t1,hpg,hf,.inl ⟨h1,rfl⟩⟩}
    · rw[dF hf,cFq,Bool.false_and,cFq]at hp
      have hw:=bIi l t0 t1 hf;rw[hp];simp only[decide_true,bT,cFq];rw[show M.ins (h.Words.getD ((x.Pages.getD (M.wpc (M.vw h.Words x)/8).toNat default).Frame*8+M.wpc (M.vw h.Words x)%8).toNat default)=M.inst (M.vw h.Words x) by rw[hw];rfl];have hl1:M.lackS (x.Pages.getD (M.wpc (M.vw h.Words x)/8).toNat default) false=false:=(by unfold M.lackS;rw[dF hf];rfl);generalize hi:M.inst (M.vw h.Words x)=i;unfold M.iExit;cases hk:M.kern i.Op with
      |true=>obtain⟨n3,n4⟩:=bFf hk;have h2:M.comes (M.vw h.Words x)=false:=(by unfold M.comes M.isSt;rw[hi,dF n3,dF n4];simp);have hc:M.cnt x.Pages (M.vw h.Words x)=0:=(by unfold M.cnt;rw[h2,hl1];simp[M.one]);(cases hu:x.C.User with|false=>exact .inr (.inr ⟨.inr ⟨rfl,rfl,rfl⟩,hc⟩)|true=>simp only[bT,Bool.and_false,cFq];rw[dF n3,dF n4];exact .inr (.inr ⟨.inl rfl,hc⟩))
      |false=>
       rw[Bool.false_and,cFq];by_cases ho:i.Op=3\/i.Op=4;{have eo:(decide (i.Op=3)||decide (i.Op=4))=true:=(by simpa using ho);have ead:M.reg x.C (i.N%4)%64=M.adr (M.vw h.Words x):=(by unfold M.adr;rw[hi];rfl);have est:decide (i.Op=4)=M.isSt (M.vw h.Words x):=(by unfold M.isSt;rw[hi]);have hco:M.comes (M.vw h.Words x)=!decide (M.wad (M.vw h.Words x)=-1):=(by unfold M.comes;rw[h1,<-est,hi,eo];rfl);have har:0<=M.adr (M.vw h.Words x)/\M.adr (M.vw h.Words x)<=63:=(by unfold M.adr;omega);rw[eo,cTq,ead,est];rcases aJf l (a:=M.adr (M.vw h.Words x)) (w:=M.isSt (M.vw h.Words x)) har.1 har.2 (t:=M.wad (M.vw h.Words x)) rfl with⟨ht,hp⟩|⟨t0,t1,hpg,hp⟩;{have h2:M.comes (M.vw h.Words x)=false:=(by rw[hco,dT ht];rfl);rw[hp];refine .inr (.inr ⟨.inl rfl,?_⟩);unfold M.cnt;rw[h2,hl1];simp[M.one]};{have h2:M.comes (M.vw h.Words x)=true:=(by rw[hco,dF (by omega)];rfl);by_cases hf2:(x.Pages.getD (M.wad (M.vw h.Words x)/8).toNat default).Frame=-1;{rw[dT hf2,cTq]at hp;rw[hp];exact .inl ⟨rfl,_,t0,t1,hpg,hf2,.inr ⟨h2,rfl⟩⟩};{rw[dF hf2,cFq]at hp;(cases hw2:M.isSt (M.vw h.Words x)&&!(x.Pages.getD (M.wad (M.vw h.Words x)/8).toNat default).Write with|true=>rw[hw2,cTq]at hp;rw[hp];rw[bA,Bool.not_eq_true']at hw2;exact .inr (.inl ⟨rfl,_,t0,t1,hpg,hf2,hw2.2,h2,rfl,hw2.1⟩)|false=>rw[hw2,cFq]at hp;rw[hp];refine .inr (.inr ⟨.inl rfl,?_⟩);have hl2:M.lackS (x.Pages.getD (M.wad (M.vw h.Words x)/8).toNat default) (M.isSt (M.vw h.Words x))=false:=(by unfold M.lackS;rw[dF hf2,hw2];rfl);unfold M.cnt;rw[hl1,hl2];simp[M.one])}}}
       · have eo:(decide (i.Op=3)||decide (i.Op=4))=false:=by
          rw[Bool.or_eq_false_iff,decide_eq_false_iff_not,decide_eq_false_iff_not];exact not_or.1 ho
         have h2:M.comes (M.vw h.Words x)=false:=(by unfold M.comes M.isSt;rw[hi,eo];simp);rw[eo,cFq];refine .inr (.inr ⟨.inl rfl,?_⟩);unfold M.cnt;rw[h2,hl1];simp[M.one]
end
section
variable {h : DHost} {g : Int} {x : DGuest}
theorem aJz(l:Live h g x):M.there h g=true:=gE.2 ⟨l.ok,l.lo,l.hi,by rw[l.at_];exact l.live⟩
theorem aWy(l:Live h g x):M.guestExit h g=M.xExit h.Words x:=by unfold M.guestExit;rw[aJz l,cTq,l.at_]
theorem aBt(l:Live h g x):M.hostView h g=(M.vw h.Words x,true):=by unfold M.hostView;rw[aJz l,cTq,l.at_];rfl
theorem aKk(hs:SmallH h)(l:Live h g x){p f:Int}(p0:0<=p)(p1:p<=7)(f0:0<=f)(f1:f<20)(hok:HOk (M.inFrame h g p f)):Live (M.inFrame h g p f) g (fQ x p.toNat f):=by have g0:=l.lo;have g1:=l.hi;have hg:=(aIi (f:=f) l p0 p1).1;have:=cC (wV (p:=p) (f:=f) hs l f0 f1) (gE.2 ⟨hok,g0,g1,by rw[hg];exact l.live⟩);rwa[hg]at this
theorem aSe(l:Live h g x){p q:Nat}{f:Int}(hp:p<8)(f0:0<=f){w:Bool}:M.lackS ((fQ x p f).Pages.getD q default) w=if q=p then false else M.lackS (x.Pages.getD q default) w:=by have hpl:=l.pages;show M.lackS ((x.Pages.set p _).getD q default) w=_;by_cases e:q=p;{subst e;rw[if_pos rfl,aW (by rw[lS];omega),List.getElem_set_self];unfold M.lackS;simp only[bT,Bool.and_false,Bool.or_false];exact dF (by omega)};{rw[if_neg e];congr 1;simp only[List.getD_eq_getElem?_getD,List.getElem?_set];rw[if_neg (by omega)]}
theorem bAi{a b:Bool}(h:a=true->b=true):M.one a<=M.one b:=by cases a;{exact Nat.zero_le _};{rw[h rfl];exact Nat.le_refl _}
theorem aVb (l:Live h g x) {p:Nat} {f:Int} (hp:p<8) (f0:0<=f) {b:DBare}
 (hl:(M.reads b=true/\(M.wpc b/8).toNat=p/\M.lackS (x.Pages.getD p default) false=true)\/(M.comes b=true/\(M.wad b/8).toNat=p/\M.lackS (x.Pages.getD p default) (M.isSt b)=true)):
 M.cnt (fQ x p f).Pages b<M.cnt x.Pages b:=by
 unfold M.cnt;rw[aSe l hp f0,aSe l hp f0];have h1:M.one (M.reads b&&if(M.wpc b/8).toNat=p then false else M.lackS (x.Pages.getD (M.wpc b/8).toNat default) false)<=M.one (M.reads b&&M.lackS (x.Pages.getD (M.wpc b/8).toNat default) false):=bAi λh=>by split at h;{simp at h};{exact h}
 have h2:M.one (M.comes b&&if(M.wad b/8).toNat=p then false else M.lackS (x.Pages.getD (M.wad b/8).toNat default) (M.isSt b))<=M.one (M.comes b&&M.lackS (x.Pages.getD (M.wad b/8).toNat default) (M.isSt b)):=bAi λh=>by split at h;{simp at h};{exact h}
 rcases hl with⟨a1,a2,a3⟩|⟨a1,a2,a3⟩;{have e1:M.one (M.reads b&&M.lackS (x.Pages.getD (M.wpc b/8).toNat default) false)=1:=(by rw[a1,a2,a3];rfl);have e2:M.one (M.reads b&&if(M.wpc b/8).toNat=p then false else M.lackS (x.Pages.getD (M.wpc b/8).toNat default) false)=0:=(by rw[if_pos a2,Bool.and_false];rfl);omega};{have e1:M.one (M.comes b&&M.lackS (x.Pages.getD (M.wad b/8).toNat default) (M.isSt b))=1:=(by rw[a1,a2,a3];rfl);have e2:M.one (M.comes b&&if(M.wad b/8).toNat=p then false else M.lackS (x.Pages.getD (M.wad b/8).toNat default) (M.isSt b))=0:=(by rw[if_pos a2,Bool.and_false];rfl);omega}
theorem aTl(hs:SmallH h)(l:Live h g x)(hk:M.lacks (M.xExit h.Words x)=true)(ha:(M.answered h g (M.xExit h.Words x)).2=true):
 ∃f,0<=(M.xExit h.Words x).Page/\(M.xExit h.Words x).Page<=7/\0<=f/\f<20/\M.answered h g (M.xExit h.Words x)=(M.inFrame h g (M.xExit h.Words x).Page f,true)/\
  HOk (M.inFrame h g (M.xExit h.Words x).Page f)/\
  (((x.Pages.getD (M.xExit h.Words x).Page.toNat default).Frame=f/\M.many (M.slots h.Guests) f=1)\/M.many (M.slots h.Guests) f=0)/\
  M.cnt (fQ x (M.xExit h.Words x).Page.toNat f).Pages (M.vw h.Words x)<M.cnt x.Pages (M.vw h.Words x):=by
 rcases aJp l with⟨hw,t,t0,t1,hpg,hf,hc⟩|⟨hw,t,t0,t1,hpg,hf,hwr,hc,ht,hst⟩|⟨hc,_⟩
 · have ea:M.answered h g (M.xExit h.Words x)=M.hostFill h g (M.xExit h.Words x).Page:=by unfold M.answered;rw[hw];rfl
   rw[ea]at ha ⊢;obtain⟨x',l',p0,p1,hcs⟩:=aJs hs ha;have ex:x'=x:=l'.at_.symm.trans l.at_;subst ex;rcases hcs with⟨_,hne⟩|⟨f,f0,f1,hm,e⟩;{rw[hpg]at hne;exact absurd hf hne}
   · refine⟨f,p0,p1,f0,f1,e,aFx l p0 p1 f0 f1 (by rw[hm,if_neg (yJ l (by omega) hm)]),.inr hm,aVb l (by omega) f0 ?_⟩
     have hlk:∀w,M.lackS (x'.Pages.getD (M.xExit h.Words x').Page.toNat default) w=true:=λw=>by unfold M.lackS;rw[hpg,dT hf];rfl
     rcases hc with⟨h1,h2⟩|⟨h1,h2⟩;{exact .inl ⟨h1,by rw[hpg,h2],hlk _⟩};{exact .inr ⟨h1,by rw[hpg,h2],hlk _⟩}
 · have ea:M.answered h g (M.xExit h.Words x)=M.hostCopy h g (M.xExit h.Words x).Page:=by unfold M.answered;rw[hw];rfl
   rw[ea]at ha ⊢;obtain⟨x',f,l',p0,p1,f0,f1,e,hcs⟩:=aKd hs ha;have ex:x'=x:=l'.at_.symm.trans l.at_;subst ex;have hmf:M.many (M.slots h.Guests) f=if(x'.Pages.getD (M.xExit h.Words x').Page.toNat default).Frame=f then 1 else 0:=by rcases hcs with⟨q,hm⟩|hm;{rw[if_pos q,hm]};{rw[if_neg (yJ l (by omega) hm),hm]}
   refine⟨f,p0,p1,f0,f1,e,aFx l p0 p1 f0 f1 hmf,hcs,aVb l (by omega) f0 (.inr ⟨hc,by rw[hpg,ht],?_⟩)⟩;unfold M.lackS;rw[hpg,hst,hwr];simp
 {rcases hc with hc|⟨hc,_⟩<;>rw[hc]at hk<;>cases hk}
end
structure Rdy (h : DHost) (g : Int) (x : DGuest) (h' : DHost) (x' : DGuest) : Prop where
 small:SmallH h'
 live:Live h' g x'
 views:∀k:Nat,k<3->M.hostView h' (k:Int)=M.hostView h (k:Int)
 same:M.vw h'.Words x'=M.vw h.Words x
 none:M.cnt x'.Pages (M.vw h'.Words x')=0
 dirt:∀p:Nat,(x'.Pages.getD p default).Dirty=(x.Pages.getD p default).Dirty
theorem bBb{x:DGuest}{p q:Nat}{f:Int}(hl:x.Pages.length=8)(hp:p<8):((fQ x p f).Pages.getD q default).Dirty=(x.Pages.getD q default).Dirty:=by show((x.Pages.set p _).getD q default).Dirty=_;by_cases e:p=q;{subst e;rw[aW (by rw[lS];omega),List.getElem_set_self]};{simp only[List.getD_eq_getElem?_getD,List.getElem?_set];rw[if_neg e]}
theorem aRl{g:Int}:∀{n:Nat} {h:DHost} {x:DGuest},SmallH h->Live h g x->M.cnt x.Pages (M.vw h.Words x)<=n->M.ready g n h=none\/∃h' x',M.ready g n h=some h'/\Rdy h g x h' x'
 |0,h,x,hs,l,hc=> .inr ⟨h,x,rfl,hs,l,λ_ _=>rfl,rfl,by omega,λ_=>rfl⟩
 |n+1,h,x,hs,l,hc=>by unfold M.ready;rw[aWy l];(cases hk:M.lacks (M.xExit h.Words x)with|false=>refine .inr ⟨h,x,rfl,hs,l,λ_ _=>rfl,rfl,?_,λ_=>rfl⟩;rcases aJp l with⟨hw,_⟩|⟨hw,_⟩|⟨_,hz⟩;{unfold M.lacks at hk;rw[hw]at hk;cases hk};{unfold M.lacks at hk;rw[hw]at hk;cases hk};{exact hz}|true=>rw[cTq];(cases ha:(M.answered h g (M.xExit h.Words x)).2 with|false=>exact .inl rfl|true=>obtain⟨f,p0,p1,f0,f1,e,hok,hm,hlt⟩:=aTl hs l hk ha;have l2:=aKk hs l p0 p1 f0 f1 hok;have hs2:=wV (p:=(M.xExit h.Words x).Page) (f:=f) hs l f0 f1;have hv:∀k:Nat,k<3->M.hostView (M.inFrame h g (M.xExit h.Words x).Page f) (k:Int)=M.hostView h (k:Int):=λk hk=>aJi hs l p0 p1 f0 f1 hok (hm.imp And.left id) hk;have g0:=l.lo;have g1:=l.hi;have hv2:=hv g.toNat (by omega);rw[show((g.toNat:Nat):Int)=g by omega,aBt l,aBt l2]at hv2;have hvw:=congrArg Prod.fst hv2;simp only at hvw;rw[e,cTq];rcases aRl (n:=n) hs2 l2 (by rw[hvw];omega)with hr|⟨h',x',hr,r⟩;{exact .inl hr};{exact .inr ⟨h',x',hr,r.small,r.live,λk hk=>(r.views k hk).trans (hv k hk),r.same.trans hvw,r.none,λp=>(r.dirt p).trans (bBb l.pages (by omega))⟩}))
theorem bIo{ps:List DSlot}{b:DBare}:M.cnt ps b<=2:=by
 have:∀a,M.one a<=1:=λa=>by cases a<;>decide
 unfold M.cnt;have h1:=this (M.reads b&&M.lackS (ps.getD (M.wpc b/8).toNat default) false);have h2:=this (M.comes b&&M.lackS (ps.getD (M.wad b/8).toNat default) (M.isSt b));omega
theorem bHm(b:DBare):M.step b=(bif b.C.Stopped then b
 else bif (M.tick b.C).Waits&&(M.tick b.C).On then M.with_ b (M.trap (M.quiet (M.tick b.C)) b.C.Pc 4 0)
 else bif decide (M.wpc b=-1)then M.with_ b (M.trap (M.tick b.C) b.C.Pc 2 b.C.Pc)
 else M.did (M.with_ b (M.tick b.C)) (M.inst b)):=by
 unfold M.step M.inst M.wpc;rw[aLw,aVk,aLy]
theorem bJr(b:DBare)(i:DIns)(h:i.Op=3\/i.Op=4):M.did b i=M.mdo b i:=by unfold M.did;rcases h with h|h<;>rw[h]<;>rfl
theorem bKz(b:DBare)(i:DIns)(h3:i.Op≠3)(h4:i.Op≠4):M.did b i=bif M.kern i.Op then bif b.C.User then M.with_ b (M.trap b.C b.C.Pc 3 0)else M.kdo b i else M.with_ b (M.plain b.C i):=by unfold M.did;rw[dF h3,dF h4];rfl
theorem bLk(b:DBare)(ho:(M.inst b).Op=3\/(M.inst b).Op=4):M.mdo (M.with_ b (M.tick b.C)) (M.inst b)=
 (bif decide (M.wad b=-1)then M.with_ b (M.trap (M.tick b.C) b.C.Pc 2 (M.adr b))
  else bif M.isSt b then⟨M.go (M.tick b.C),b.Mem.set (M.wad b).toNat (M.reg b.C (M.inst b).A),b.In,b.Out⟩
  else M.with_ b (M.go (M.put (M.tick b.C) (M.inst b).A (b.Mem.getD (M.wad b).toNat default)))):=by
 unfold M.mdo M.wad M.adr M.isSt;simp only[M.with_,aLw,aVk,aLy,bEx];rcases ho with h|h<;>rw[h]<;>rfl
theorem bEa(b:DBare):(M.step b).Mem=bif M.wrote b then b.Mem.set (M.wad b).toNat (M.reg b.C (M.inst b).A)else b.Mem:=by rw[bHm];unfold M.wrote M.comes M.reads M.busy;(cases b.C.Stopped with|true=>rfl|false=>(cases(M.tick b.C).Waits&&(M.tick b.C).On with|true=>rfl|false=>(cases decide (M.wpc b=-1)with|true=>rfl|false=>simp only[cFq,Bool.false_or,bF,Bool.true_and];by_cases ho:(M.inst b).Op=3\/(M.inst b).Op=4;{rw[bJr _ _ ho,bLk b ho];have eo:(decide ((M.inst b).Op=3)||M.isSt b)=true:=(by unfold M.isSt;simpa using ho);rw[eo,Bool.true_and];(cases decide (M.wad b=-1)with|true=>rfl|false=>cases M.isSt b<;>rfl)};{obtain⟨n3,n4⟩:=not_or.1 ho;rw[bKz _ _ n3 n4];have eo:(decide ((M.inst b).Op=3)||M.isSt b)=false:=(by unfold M.isSt;rw[dF n3,dF n4];rfl);rw[eo];simp only[Bool.false_and,cFq];(cases M.kern (M.inst b).Op with|false=>rfl|true=>(cases(M.with_ b (M.tick b.C)).C.User with|true=>rfl|false=>exact bHj _ _))})))
section
variable {h : DHost} {g : Int} {x : DGuest}
theorem aId{y:DGuest}:∀{gs:List DGuest} {i:Nat},i<gs.length->y.Pages=(gs.getD i default).Pages->M.slots (gs.set i y)=M.slots gs
 |[],i,h,_=>by simp at h
 |z::gs,0,_,h=>by rw[List.set_cons_zero];simp only[M.slots,List.flatMap_cons];rw[h];rfl
 |z::gs,i+1,hi,h=>by rw[List.set_cons_succ];have:=aId (y:=y) (gs:=gs) (i:=i) (by simpa using hi) h;simp only[M.slots,List.flatMap_cons]at this ⊢;rw[this]
theorem bHh{b:DBare}(h:BOk b):M.coreOk b.C=true/\M.rowOk b.In=true/\M.rowOk b.Out=true:=by have:=aVv.2 h;unfold M.bareOk at this;simp only[bA]at this;exact⟨this.1.1.1,this.1.2,this.2⟩
theorem aQl(l:Live h g x){b:DBare}(hb:BOk b){ps:List DSlot}(h8:ps.length=8)(hp:ps.all M.slotOk=true):M.guestOk ⟨x.Live,b.C,ps,b.In,b.Out⟩=true:=by obtain⟨h1,h2,h3⟩:=bHh hb;unfold M.guestOk;simp only;rw[l.live,h1,h2,h3,hp,dT h8];rfl
theorem bCh(l:Live h g x){y:DGuest}(hy:M.guestOk y=true):(h.Guests.set g.toNat y).all M.guestOk=true:=by rw[List.all_eq_true];intro z hz;rcases List.mem_or_eq_of_mem_set hz with hz|rfl;{exact List.all_eq_true.1 l.ok.all z hz};{exact hy}
theorem rH(l:Live h g x){y:DGuest}{k:Nat}(hk:k<3):(h.Guests.set g.toNat y).getD k default=if(k:Int)=g then y else h.Guests.getD k default:=by have h3:=l.ok.three;have g0:=l.lo;have g1:=l.hi;rw[List.getD_eq_getElem?_getD,List.getElem?_set];by_cases e:(k:Int)=g;{rw[if_pos e,if_pos (by omega),if_pos (by omega)];rfl};{rw[if_neg e,if_neg (by omega),<-List.getD_eq_getElem?_getD]}
theorem bBs(l:Live h g x){b:DBare}(hb:BOk b):HOk (M.withM h g x b):=by have h3:=l.ok.three;have g0:=l.lo;have g1:=l.hi;refine⟨l.ok.len,l.ok.words,by show(h.Guests.set _ _).length=3;rw[lS];exact h3,bCh l (aQl l hb l.pages l.slots),?_⟩;show M.alone (M.slots (h.Guests.set _ _))=true;rw[aId (by omega) (by rw[l.at_])];exact l.ok.alone
theorem aMs(hs:SmallH h){ws:List Int}{y:DGuest}(hw:ws.length<=1048576)(hy:SmallG y):SmallH ⟨ws,h.Guests.set g.toNat y⟩:=by refine⟨hw,by show(h.Guests.set _ _).length<=_;rw[lS];exact hs.guests,λz hz=>?_⟩;rcases List.mem_or_eq_of_mem_set hz with hz|rfl;{exact hs.all z hz};{exact hy}
theorem aFq{b:DBare}(hb:BOk b){v:Bool}{ps:List DSlot}(h8:ps.length=8):SmallG ⟨v,b.C,ps,b.In,b.Out⟩:=⟨⟨by have:=hb.regs;show b.C.Regs.length<=_;omega⟩,by show ps.length<=_;omega,by have:=hb.inn;show b.In.length<=_;omega,by have:=hb.out;show b.Out.length<=_;omega⟩
theorem aTk(hs:SmallH h)(l:Live h g x){b:DBare}(hb:BOk b):SmallH (M.withM h g x b):=aMs hs hs.words (aFq hb l.pages)
theorem aRe(l:Live h g x){h':DHost}(hok:HOk h'){y:DGuest}(hy:y.Live=true)(he:h'.Guests=h.Guests.set g.toNat y):M.hostView h' g=(M.vw h'.Words y,true):=by have g0:=l.lo;have g1:=l.hi;have e:h'.Guests.getD g.toNat default=y:=(by rw[he,rH l (by omega),if_pos (by omega)]);unfold M.hostView;rw[gE.2 ⟨hok,g0,g1,by rw[e];exact hy⟩,cTq,e];rfl
theorem aKh (l:Live h g x) {h':DHost} (hok:HOk h') {y:DGuest} (he:h'.Guests=h.Guests.set g.toNat y) {k:Nat} (hk:k<3) (hn:(k:Int)≠g)
 (hm:(h.Guests.getD k default).Live=true->M.mem h'.Words (h.Guests.getD k default).Pages=M.mem h.Words (h.Guests.getD k default).Pages):M.hostView h' (k:Int)=M.hostView h (k:Int):=by
 have e:h'.Guests.getD (Int.toNat (k:Int)) default=h.Guests.getD (Int.toNat (k:Int)) default:=(by rw[iT,he,rH l hk,if_neg hn]);unfold M.hostView M.there;rw[e,cM.2 hok,cM.2 l.ok,Bool.true_and];(cases hl:(h.Guests.getD (Int.toNat (k:Int)) default).Live with|false=>rw[Bool.and_false];rfl|true=>rw[iT]at hl ⊢;rw[hm hl])
theorem zS(hs:SmallH h)(l:Live h g x){p:Nat}(hp:p<8)(hw:(x.Pages.getD p default).Write=true)(hf:(x.Pages.getD p default).Frame≠-1){k q:Nat}(hk:k<3)(hq:q<(h.Guests.getD k default).Pages.length)(hne:(k:Int)≠g\/q≠p):((h.Guests.getD k default).Pages.getD q default).Frame≠(x.Pages.getD p default).Frame:=by intro he;have h3:=l.ok.three;have g0:=l.lo;have g1:=l.hi;have hpl:=l.pages;have hsl:=cA l hp;have ha:=List.all_eq_true.1 l.ok.alone _ (aMt l hp);rw[hw,bT,Bool.false_or,decide_eq_true_eq]at ha;have hm:=aOu l hp (f:=-7) (q:=(x.Pages.getD p default).Frame);rw[if_pos rfl,if_neg (by omega)]at hm;have hz:M.many (M.slots (h.Guests.set g.toNat (fQ x p (-7)))) (x.Pages.getD p default).Frame=0:=(by omega);have hpos:0<M.many (M.slots (h.Guests.set g.toNat (fQ x p (-7)))) (x.Pages.getD p default).Frame:=(by unfold M.many;refine List.countP_pos_iff.2 ⟨(h.Guests.getD k default).Pages.getD q default,?_,by simpa using he⟩;by_cases e:(k:Int)=g;{have ek:h.Guests.getD k default=x:=(by rw[<-l.at_];congr 1;omega);rw[ek]at hq ⊢;refine List.mem_flatMap.2 ⟨fQ x p (-7),?_,?_⟩;{have:=bY (xs:=h.Guests.set g.toNat (fQ x p (-7))) (k:=k) (by rw[lS];omega);rwa[rH l hk,if_pos e]at this};{have hqp:q≠p:=hne.resolve_left (λn=>n e);have:(fQ x p (-7)).Pages.getD q default=x.Pages.getD q default:=(by show(x.Pages.set p _).getD q default=_;simp only[List.getD_eq_getElem?_getD,List.getElem?_set];rw[if_neg (by omega)]);rw[<-this];exact bY (by show q<(x.Pages.set p _).length;rw[lS];exact hq)}};{refine List.mem_flatMap.2 ⟨h.Guests.getD k default,?_,bY hq⟩;have:=bY (xs:=h.Guests.set g.toNat (fQ x p (-7))) (k:=k) (by rw[lS];omega);rwa[rH l hk,if_neg e]at this});omega
theorem bEe{a:Bool}(h:M.one a=0):a=false:=by cases a;rfl;cases h
structure Wr (h : DHost) (x : DGuest) (t : Int) : Prop where
 lo:0<=t
 hi:t<64
 frame:(x.Pages.getD (t/8).toNat default).Frame≠-1
 write:(x.Pages.getD (t/8).toNat default).Write=true
theorem bFd(l:Live h g x)(hc:M.cnt x.Pages (M.vw h.Words x)=0)(hw:M.wrote (M.vw h.Words x)=true):Wr h x (M.wad (M.vw h.Words x))/\0<=(M.inst (M.vw h.Words x)).A/\(M.inst (M.vw h.Words x)).A<4:=by have hb:=aNw l;unfold M.wrote at hw;rw[bA]at hw;obtain⟨h1,h2⟩:=hw;have c2:=bEe (Nat.eq_zero_of_add_eq_zero_left hc);rw[h1,h2,Bool.true_and]at c2;unfold M.lackS at c2;rw[Bool.true_and,Bool.or_eq_false_iff,decide_eq_false_iff_not,Bool.not_eq_false']at c2;unfold M.comes at h1;simp only[bA,Bool.not_eq_true',decide_eq_false_iff_not]at h1;have hwt:=aDk _ _ _ _ _ h1.2;have hr:=h1.1.1;unfold M.reads at hr;simp only[bA,Bool.not_eq_true',decide_eq_false_iff_not]at hr;have hwp:=aDk _ _ _ _ _ hr.2;have hm:=aGx hb hwp.1 hwp.2;have hi:=bCo hm.1 hm.2;simp only[M.insOk,bA,M.inR_iff]at hi;refine⟨⟨hwt.1,hwt.2,c2.1,c2.2⟩,hi.1.2.1,Int.lt_of_le_of_lt hi.1.2.2 (by decide)⟩
theorem aAb{p q:Nat}(hl:x.Pages.length=8)(hp:p<8):(x.Pages.set p (M.dirty x p)).getD q default=if q=p then M.dirty x p else x.Pages.getD q default:=by simp only[List.getD_eq_getElem?_getD,List.getElem?_set];by_cases e:q=p;{subst e;rw[if_pos rfl,if_pos rfl,if_pos (by omega)];rfl};{rw[if_neg (by omega),if_neg e]}
theorem aTu{p q:Nat}(hl:x.Pages.length=8)(hp:p<8):((x.Pages.set p (M.dirty x p)).getD q default).Frame=(x.Pages.getD q default).Frame:=by rw[aAb hl hp];split;{rename_i e;rw[e];rfl};{rfl}
theorem bEr(l:Live h g x){p:Nat}(hp:p<8)(hf:(x.Pages.getD p default).Frame≠-1):(x.Pages.set p (M.dirty x p)).all M.slotOk=true:=by rw[List.all_eq_true];intro s hs;rcases List.mem_or_eq_of_mem_set hs with hs|rfl;{exact List.all_eq_true.1 l.slots s hs};{have:=cA l hp;unfold M.slotOk M.dirty;simp only;rw[dF hf,cFq,dT (by omega),dT this.2];rfl}
theorem aZo(hs:SmallH h)(l:Live h g x){t:Int}(hw:Wr h x t){w:Int}{ps:List DSlot}(hf:∀q,(ps.getD q default).Frame=(x.Pages.getD q default).Frame):
 M.mem (h.Words.set ((x.Pages.getD (t/8).toNat default).Frame*8+t%8).toNat w) ps=(M.mem h.Words x.Pages).set t.toNat w:=by
 have g0:=l.lo;have g1:=l.hi;have hpl:=l.pages;have hlw:=l.ok.len;have t0:=hw.lo;have t1:=hw.hi;have hfr:=hw.frame;have hrt:=cA l (p:=(t/8).toNat) (by omega);refine gL (n:=64) cH (by rw[lS,cH]) λa ha=>?_;rw[dQ ha,uR (by rw[cH];omega),dQ ha];have hr:=cA l (p:=a/8) (by omega);unfold M.word;rw[hf];by_cases e:t.toNat=a;{rw[if_pos e,show a/8=(t/8).toNat by omega,if_neg (by omega),uR (by omega),if_pos (by omega)]}
 · rw[if_neg e]
   split;{rfl}
   · rw[uR (by omega),if_neg]
     intro e2;have hne:a/8≠(t/8).toNat:=λe3=>by rw[e3]at e2;omega
     have:=zS hs l (p:=(t/8).toNat) (by omega) hw.write hfr (k:=g.toNat) (q:=a/8) (by omega) (by rw[l.at_];omega) (.inr hne);rw[l.at_]at this;omega
theorem bBx(hs:SmallH h)(l:Live h g x){t:Int}(hw:Wr h x t){w:Int}{k:Nat}(hk:k<3)(hn:(k:Int)≠g)(hl:(h.Guests.getD k default).Live=true):
 M.mem (h.Words.set ((x.Pages.getD (t/8).toNat default).Frame*8+t%8).toNat w) (h.Guests.getD k default).Pages=M.mem h.Words (h.Guests.getD k default).Pages:=by
 have g0:=l.lo;have g1:=l.hi;have hlw:=l.ok.len;have t0:=hw.lo;have t1:=hw.hi;have hfr:=hw.frame;have hrt:=cA l (p:=(t/8).toNat) (by omega);have lk:=cC (g:=(k:Int)) hs (gE.2 ⟨l.ok,by omega,by omega,by rw[iT];exact hl⟩);rw[iT]at lk;have hpk:=lk.pages;refine gL (n:=64) cH cH λa ha=>?_;rw[dQ ha,dQ ha];have hr:=cA lk (p:=a/8) (by omega);unfold M.word;split;{rfl};{rw[uR (by omega),if_neg];intro e2;exact zS hs l (p:=(t/8).toNat) (by omega) hw.write hfr (k:=k) (q:=a/8) hk (by omega) (.inl hn) (by omega)}
structure Ran (h : DHost) (g : Int) (x : DGuest) (y : DGuest) : Prop where
 ok:HOk (M.ran h g x)
 small:SmallH (M.ran h g x)
 at_:(M.ran h g x).Guests.getD g.toNat default=y
 view:M.hostView (M.ran h g x) g=(M.step (M.vw h.Words x),true)
 others:∀k:Nat,k<3->(k:Int)≠g->M.hostView (M.ran h g x) (k:Int)=M.hostView h (k:Int)
 pages:y.Pages.length=8
 dirt:∀q:Nat,(x.Pages.getD q default).Dirty=true->(y.Pages.getD q default).Dirty=true
 told:∀a:Nat,a<64->(M.mem h.Words x.Pages).getD a default≠(M.step (M.vw h.Words x)).Mem.getD a default->(y.Pages.getD (a/8) default).Dirty=true
theorem bLf(hs:SmallH h)(l:Live h g x)(hc:M.cnt x.Pages (M.vw h.Words x)=0):∃y,Ran h g x y:=by
 have h3:=l.ok.three;have g0:=l.lo;have g1:=l.hi;have hpl:=l.pages;have hlw:=l.ok.len;have hb:=aNw l;have hst:=bHk hb;have hsm:=bEa (M.vw h.Words x);cases hw:M.wrote (M.vw h.Words x)with
 |false=>rw[hw,cFq]at hsm;have er:M.ran h g x=M.withM h g x (M.step (M.vw h.Words x)):=(by unfold M.ran;rw[hw];rfl);have hok:=bBs l hst;have hvs:=aRe l hok (y:=⟨x.Live,(M.step (M.vw h.Words x)).C,x.Pages,(M.step (M.vw h.Words x)).In,(M.step (M.vw h.Words x)).Out⟩) l.live rfl;refine⟨⟨x.Live,(M.step (M.vw h.Words x)).C,x.Pages,(M.step (M.vw h.Words x)).In,(M.step (M.vw h.Words x)).Out⟩,by rw[er];exact hok,by rw[er];exact aTk hs l hst,?_,?_,λk hk hn=>?_,hpl,λq hq=>hq,λa ha hne=>?_⟩;{rw[er];have:=rH l (y:=⟨x.Live,(M.step (M.vw h.Words x)).C,x.Pages,(M.step (M.vw h.Words x)).In,(M.step (M.vw h.Words x)).Out⟩) (k:=g.toNat) (by omega);rw[if_pos (by omega)]at this;exact this};{rw[er,hvs];have:M.mem h.Words x.Pages=(M.step (M.vw h.Words x)).Mem:=hsm.symm;show((⟨_,M.mem h.Words x.Pages,_,_⟩:DBare),true)=_;rw[this]};{rw[er];exact aKh l hok rfl hk hn λ_=>rfl};{rw[hsm]at hne;exact absurd rfl hne}
 |true=>
  rw[hw,cTq]at hsm;obtain⟨hwr,a0,a1⟩:=bFd l hc hw;have t0:=hwr.lo;have t1:=hwr.hi;have hg:=hb.reg a0 a1;have hrt:=cA l (p:=(M.wad (M.vw h.Words x)/8).toNat) (by omega);have er:M.ran h g x=⟨h.Words.set ((x.Pages.getD (M.wad (M.vw h.Words x)/8).toNat default).Frame*8+M.wad (M.vw h.Words x)%8).toNat (M.reg x.C (M.inst (M.vw h.Words x)).A),h.Guests.set g.toNat ⟨x.Live,(M.step (M.vw h.Words x)).C,x.Pages.set (M.wad (M.vw h.Words x)/8).toNat (M.dirty x (M.wad (M.vw h.Words x)/8).toNat),(M.step (M.vw h.Words x)).In,(M.step (M.vw h.Words x)).Out⟩⟩:=(by unfold M.ran;rw[hw];rfl);generalize hy:(⟨x.Live,(M.step (M.vw h.Words x)).C,x.Pages.set (M.wad (M.vw h.Words x)/8).toNat (M.dirty x (M.wad (M.vw h.Words x)/8).toNat),(M.step (M.vw h.Words x)).In,(M.step (M.vw h.Words x)).Out⟩:DGuest)=y at er;have yl:y.Live=true:=(by rw[<-hy];exact l.live);have yp:y.Pages=x.Pages.set (M.wad (M.vw h.Words x)/8).toNat (M.dirty x (M.wad (M.vw h.Words x)/8).toNat):=(by rw[<-hy]);have yp8:y.Pages.length=8:=(by rw[yp,lS];exact hpl);have yg:M.guestOk y=true:=(by rw[<-hy];exact aQl l hst (by rw[lS];exact hpl) (bEr l (by omega) hwr.frame));have yf:∀q,(y.Pages.getD q default).Frame=(x.Pages.getD q default).Frame:=λq=>by rw[yp];exact aTu hpl (by omega)
  have hmany:∀f,M.many (M.slots (h.Guests.set g.toNat y)) f=M.many (M.slots h.Guests) f:=λf=>by have h1:=aCb (x:=y) (f:=f) (gs:=h.Guests) (i:=g.toNat) (by omega);have h2:=aBn (s':=M.dirty x (M.wad (M.vw h.Words x)/8).toNat) (f:=f) (ps:=x.Pages) (j:=(M.wad (M.vw h.Words x)/8).toNat) (by omega);rw[l.at_,yp]at h1;rw[show(M.dirty x (M.wad (M.vw h.Words x)/8).toNat).Frame=(x.Pages.getD (M.wad (M.vw h.Words x)/8).toNat default).Frame from rfl]at h2;omega
  have hok:HOk (M.ran h g x):=(by rw[er];refine⟨by show(h.Words.set _ _).length=160;rw[lS];exact hlw,xE l.ok.words hg.1 hg.2,by show(h.Guests.set _ _).length=3;rw[lS];exact h3,bCh l yg,?_⟩;have ha:=l.ok.alone;simp only[M.alone,List.all_eq_true,Bool.or_eq_true,Bool.not_eq_true',decide_eq_true_eq]at ha ⊢;intro s hsm2;rw[hmany];rcases aMv hsm2 with h1|h1;{exact ha s h1};{rw[yp]at h1;rcases List.mem_or_eq_of_mem_set h1 with h1|rfl;{refine ha s (List.mem_flatMap.2 ⟨x,?_,h1⟩);rw[<-l.at_];exact bY (by omega)};{have hd:=ha _ (aMt l (p:=(M.wad (M.vw h.Words x)/8).toNat) (by omega));exact hd}});have hat:(M.ran h g x).Guests.getD g.toNat default=y:=(by rw[er];have:=rH l (y:=y) (k:=g.toNat) (by omega);rw[if_pos (by omega)]at this;exact this);refine⟨y,hok,?_,hat,?_,λk hk hn=>?_,yp8,λq hq=>?_,λa ha hne=>?_⟩;{rw[er];refine aMs hs (by rw[lS];exact hs.words) ?_;rw[<-hy];exact aFq hst (by rw[lS];exact hpl)};{rw[aRe l hok yl (by rw[er])];have hm:=aZo hs l hwr (w:=M.reg x.C (M.inst (M.vw h.Words x)).A) yf;have e1:(M.ran h g x).Words=h.Words.set ((x.Pages.getD (M.wad (M.vw h.Words x)/8).toNat default).Frame*8+M.wad (M.vw h.Words x)%8).toNat (M.reg x.C (M.inst (M.vw h.Words x)).A):=(by rw[er]);show((⟨y.C,M.mem (M.ran h g x).Words y.Pages,y.In,y.Out⟩:DBare),true)=_;have hsm2:(M.mem h.Words x.Pages).set (M.wad (M.vw h.Words x)).toNat (M.reg x.C (M.inst (M.vw h.Words x)).A)=(M.step (M.vw h.Words x)).Mem:=hsm.symm;rw[e1,hm,hsm2,<-hy]};{exact aKh l hok (y:=y) (by rw[er]) hk hn λhlv=>by rw[er];exact bBx hs l hwr hk hn hlv};{rw[yp,aAb hpl (by omega)];split;{rfl};{exact hq}};{rw[hsm]at hne;have e:a=(M.wad (M.vw h.Words x)).toNat:=(by refine Classical.byContradiction λe=>hne ?_;show _=((M.mem h.Words x.Pages).set _ _).getD a default;rw[uR (by rw[cH];omega),if_neg (by omega)]);rw[yp,aAb hpl (by omega),if_pos (by omega)];rfl}
end
section
variable {h : DHost} {g : Int} {x : DGuest}
end
section
variable {b : DBare} {op a n : Int}
end
namespace M
end M
theorem KOk.small{b:DBare}(h:KOk b)(hm:b.Mem.length<=1048576):SmallB b:=⟨⟨by have:=h.regs;omega⟩,hm,by have:=h.inn;omega,by have:=h.out;omega⟩
section
variable {h : DHost} {g : Int} {x : DGuest}
theorem aTt(l:Live h g x):iF h g=some (M.mach x):=by have:=l.ok.three;have:=l.lo;have:=l.hi;unfold iF;rw[aF ⟨l.lo,by omega⟩,l.at_];rfl
end
section
variable {b : DBare} {op a n : Int}
end
section
variable {b : DBare} {op a n : Int}
end
section
variable {h : DHost} {g : Int} {x : DGuest}
end
section
variable {h : DHost} {g : Int} {x : DGuest}
end
section
variable {h : DHost} {g : Int} {x : DGuest}
end
theorem aLa{h:DHost}{g:Int}(hs:SmallH h):
 (M.there h g=false/\M.hostStep h g=(M.zeroH,false))\/(∃x,Live h g x/\M.hostStep h g=(h,false))\/
 (∃x h' x' y,Live h g x/\Rdy h g x h' x'/\Ran h' g x' y/\M.hostStep h g=(M.ran h' g x',true)):=by
 unfold M.hostStep;(cases ht:M.there h g with|false=>exact .inl ⟨rfl,rfl⟩|true=>have l:=cC hs ht;rw[cTq];rcases aRl (n:=8) hs l (by have:=bIo (ps:=(h.Guests.getD g.toNat default).Pages) (b:=M.vw h.Words (h.Guests.getD g.toNat default));omega)with hr|⟨h',x',hr,r⟩;{rw[hr];exact .inr (.inl ⟨_,l,rfl⟩)};{rw[hr];obtain⟨y,hy⟩:=bLf r.small r.live r.none;refine .inr (.inr ⟨_,h',x',y,l,r,hy,?_⟩);simp only[r.live.at_]})
namespace M
noncomputable def turn (s:DHost×Int)(g:Int):DHost×Int:=bif (hostStep s.1 g).2 then((hostStep s.1 g).1,s.2+1)else s
noncomputable def bNp (h:DHost)(ts:List Int):DHost×Int:=ts.foldl turn (h,0)
noncomputable def hostRun (h:DHost)(ts:List Int):DHost×Int:=bif hostOk h then(bif decide (200<ts.length)then(zeroH,0)else bNp h ts)else(zeroH,0)
end M
namespace M
def bHz(xs:List Int)(g:Int):Nat:=xs.countP λx=>decide (x=g)
end M
section
variable {b : DBare} {op a n : Int}
end
section
variable {b : DBare} {op a n : Int}
end
namespace M
def steps:Nat->DBare->DBare
 |0,b=>b
 |n+1,b=>step (steps n b)
end M
section
variable {b : DBare} {n : Int}
end
structure AlongT (h : DHost) (s : DHost × Int) (c : Nat → Nat) : Prop where
 ok:M.hostOk s.1=true
 small:SmallH s.1
 views:∀k:Nat,k<3->M.there h (k:Int)=true->M.hostView s.1 (k:Int)=(M.steps (c k) (M.hostView h (k:Int)).1,true)
 gone:∀k:Nat,k<3->M.there h (k:Int)=false->M.hostView s.1 (k:Int)=M.hostView h (k:Int)/\c k=0
 num:s.2=((c 0+c 1+c 2:Nat):Int)
theorem aXt{h:DHost}{g:Int}:(M.hostView h g).2=M.there h g:=by unfold M.hostView;cases M.there h g<;>rfl
namespace M
def lv(h:DHost)(ts:List Int)(k:Nat):Nat:=bif (h.Guests.getD k default).Live then bHz ts (k:Int)else 0
end M
structure Runs (h : DHost) (ts : List Int) (c : Nat → Nat) : Prop where
 ok:M.hostOk (M.hostRun h ts).1=true
 num:(M.hostRun h ts).2=((c 0+c 1+c 2:Nat):Int)
 most:∀k:Nat,k<3->c k<=M.lv h ts k
 views:∀k:Nat,k<3->M.there h (k:Int)=true->M.hostView (M.hostRun h ts).1 (k:Int)=(M.steps (c k) (M.hostView h (k:Int)).1,true)
 gone:∀k:Nat,k<3->M.there h (k:Int)=false->M.hostView (M.hostRun h ts).1 (k:Int)=M.hostView h (k:Int)
namespace M
def cleanAt(h:DHost)(g:Int):DHost:=⟨h.Words,h.Guests.set g.toNat (mapG clean (h.Guests.getD g.toNat default))⟩
def slotAt(h:DHost)(g:Int)(p:Nat):DSlot:=(h.Guests.getD g.toNat default).Pages.getD p default
def wordsAt(h:DHost)(g:Int)(p:Nat):List Int:=pageWords h.Words (slotAt h g p)
def zeroM:DMove:=⟨⟨[],[]⟩,⟨[],[]⟩,0,0,[]⟩
def sentOk(m:DMove)(p:Nat):Bool:=!(slotAt m.From m.G p).Dirty&&(m.Left.getD p default||decide (wordsAt m.From m.G p=wordsAt m.To m.N p))
noncomputable def moveOk (m:DMove):Bool:=there m.From m.G&&there m.To m.N&&decide (m.Left.length=8)&&(List.range 8).all (sentOk m)
def arrival(x:DGuest):DGuest:=⟨true,x.C,List.replicate 8 nowhere,x.In,x.Out⟩
noncomputable def moveBegin (a b:DHost)(g:Int):DMove×Bool:=bif there a g&&hostOk b&&decide (gone b.Guests≠-1)then
 (⟨cleanAt a g,⟨b.Words,b.Guests.set (gone b.Guests).toNat (arrival (a.Guests.getD g.toNat default))⟩,g,gone b.Guests,List.replicate 8 true⟩,true)
 else(zeroM,false)
def dirtied(ls:List Bool)(ps:List DSlot):List Bool:=(List.range 8).map λp=>ls.getD p default||(ps.getD p default).Dirty
noncomputable def moveStep (m:DMove):DMove×Bool:=bif (hostStep m.From m.G).2 then
 (⟨cleanAt (hostStep m.From m.G).1 m.G,m.To,m.G,m.N,dirtied m.Left ((hostStep m.From m.G).1.Guests.getD m.G.toNat default).Pages⟩,true)
 else(m,false)
noncomputable def framed (h:DHost)(g p:Int)(ws:List Int):DHost×Bool:=bif (hostFill h g p).2 then
 (bif (hostCopy (hostFill h g p).1 g p).2 then
  (⟨over (hostCopy (hostFill h g p).1 g p).1.Words ((slotAt (hostCopy (hostFill h g p).1 g p).1 g p.toNat).Frame.toNat*8) 8 ws,(hostCopy (hostFill h g p).1 g p).1.Guests⟩,true)
 else(zeroH,false))
 else(zeroH,false)
noncomputable def placeW (h:DHost)(g p:Int)(ws:List Int):DHost×Bool:=bif zeros ws then hostGive h g [p]else framed h g p ws
noncomputable def moveSend (m:DMove)(p:Int):DMove×Bool:=bif (placeW m.To m.N p (wordsAt m.From m.G p.toNat)).2 then
 (⟨m.From,(placeW m.To m.N p (wordsAt m.From m.G p.toNat)).1,m.G,m.N,m.Left.set p.toNat false⟩,true)
 else(m,false)
noncomputable def moveDo (m:DMove)(a:DAct):DMove×Bool:=bif moveOk m then
 (bif decide (a.Kind=1)then moveStep m else bif decide (a.Kind=2)&&inR 0 7 a.Page then moveSend m a.Page else(zeroM,false))
 else(zeroM,false)
end M
section
variable {h : DHost} {i : Nat} {y : DGuest}
theorem aWn (k:HOk h) (hi:i<3) (hy:M.guestOk y=true) (hw:∀s∈y.Pages,s.Write=true->∃t∈(h.Guests.getD i default).Pages,t.Write=true/\t.Frame=s.Frame)
 (hm:∀f,f≠-1->M.many y.Pages f<=M.many (h.Guests.getD i default).Pages f):HOk ⟨h.Words,h.Guests.set i y⟩:=by
 have h3:=k.three;refine⟨k.len,k.words,by rw[lS];exact h3,aDz k.all hy,?_⟩;show M.alone (M.slots (h.Guests.set i y))=true;rw[pN];intro j hj s hs hwr;rw[lS]at hj;have old:∃t∈(h.Guests.getD j default).Pages,t.Write=true/\t.Frame=s.Frame:=(by by_cases e:j=i;{rw[e,vC (by omega)]at hs;rw[e];exact hw s hs hwr};{rw[pG (by omega) (λq=>e q.symm)]at hs;exact⟨s,hs,hwr,rfl⟩});obtain⟨t,ht,tw,tf⟩:=old;have ok:=List.all_eq_true.1 (fW (aHu k.all (by omega:j<h.Guests.length))).1 t ht;have hf:t.Frame≠-1:=λe=>by unfold M.slotOk at ok;rw[dT e,cTq,tw]at ok;cases ok
 have h1:=pN.1 k.alone j (by omega) t ht tw;have h2:=mB (y:=y) (f:=t.Frame) (gs:=h.Guests) (i:=i) (by omega);have h4:=hm t.Frame hf;rw[<-tf];omega
theorem aCf(hs:SmallH h)(hy:SmallG y):SmallH ⟨h.Words,h.Guests.set i y⟩:=by refine⟨hs.words,by rw[lS];exact hs.guests,λz hz=>?_⟩;rcases List.mem_or_eq_of_mem_set hz with hz|rfl;{exact hs.all z hz};{exact hy}
theorem aSh(k:HOk h)(k2:HOk ⟨h.Words,h.Guests.set i y⟩){j:Nat}(h3:j<3)(hn:j≠i):M.hostView ⟨h.Words,h.Guests.set i y⟩ (j:Int)=M.hostView h (j:Int):=by have:=k.three;exact aZx (cM.2 k) (cM.2 k2) rfl (by rw[iT];exact pG (by omega) (λe=>hn e.symm))
theorem aQh{g:Int}(hs:SmallH ⟨h.Words,h.Guests.set g.toNat y⟩)(k2:HOk ⟨h.Words,h.Guests.set g.toNat y⟩)(h3:h.Guests.length=3)(g0:0<=g)(g1:g<=2)(hy:y.Live=true):Live ⟨h.Words,h.Guests.set g.toNat y⟩ g y:=by have e:((⟨h.Words,h.Guests.set g.toNat y⟩:DHost).Guests.getD g.toNat default)=y:=vC (by omega);have:=cC hs (gE.2 ⟨k2,g0,g1,by rw[e];exact hy⟩);rwa[e]at this
end
theorem aKi{f:Int}:∀{ps:List DSlot},M.many (ps.map M.clean) f=M.many ps f
 |[]=>rfl
 |s::ps=>by rw[List.map_cons,dS,dS,aKi];rfl
theorem bFn{s:DSlot}(h:M.slotOk s=true):M.slotOk (M.clean s)=true:=by unfold M.slotOk M.clean at*;by_cases e:s.Frame=-1;{rw[dT e,cTq]at h ⊢;rw[bA]at h;rw[h.1];rfl};{rw[dF e,cFq]at h ⊢;exact h}
section
variable {h : DHost} {g : Int} {x : DGuest}
theorem uB(l:Live h g x):M.cleanAt h g=⟨h.Words,h.Guests.set g.toNat (M.mapG M.clean x)⟩:=by unfold M.cleanAt;rw[l.at_]
theorem aFj(l:Live h g x):HOk (M.cleanAt h g):=by have h3:=l.ok.three;have:=l.lo;have:=l.hi;rw[uB l];refine aWn l.ok (by omega) ((tY (x:=M.mapG M.clean x) l.live).2 ⟨l.core,by show(x.Pages.map _).length=8;rw[List.length_map];exact l.pages,bCf bFn l.slots,l.inn,l.out⟩) (λs hs hw=>?_) (λf _=>?_);{obtain⟨t,ht,rfl⟩:=List.mem_map.1 (show s∈x.Pages.map M.clean from hs);rw[l.at_];exact⟨t,ht,hw,rfl⟩};{rw[l.at_];exact Nat.le_of_eq aKi}
theorem sY(hs:SmallH h)(l:Live h g x):SmallH (M.cleanAt h g):=by rw[uB l];exact aCf hs ⟨l.small.c,by show(x.Pages.map _).length<=_;rw[List.length_map];exact l.small.pages,l.small.i,l.small.o⟩
theorem vS(hs:SmallH h)(l:Live h g x):Live (M.cleanAt h g) g (M.mapG M.clean x):=by have e:=uB l;have k:=aFj l;have s:=sY hs l;rw[e]at k s ⊢;exact aQh s k l.ok.three l.lo l.hi l.live
theorem aFa(l:Live h g x):M.mem (M.cleanAt h g).Words (M.mapG M.clean x).Pages=M.mem h.Words x.Pages:=mem_map (f:=M.clean) (λ_=>rfl) l.pages
theorem aDd(hs:SmallH h)(l:Live h g x){k:Nat}(h3:k<3):M.hostView (M.cleanAt h g) (k:Int)=M.hostView h (k:Int):=by by_cases e:(k:Int)=g;{rw[e,vW (vS hs l),vW l,aFa l];rfl};{have:=l.lo;have k2:=aFj l;rw[uB l]at k2 ⊢;exact aSh l.ok k2 h3 (by omega)}
theorem yC(l:Live h g x){p:Nat}(hp:p<8):M.pageWords h.Words (x.Pages.getD p default)=M.page (M.mem h.Words x.Pages) p:=by have hsl:=cA l hp;refine gL (n:=8) (iX l.ok.len hsl) (jS (by rw[cH];omega)) λa ha=>?_;rw[lD hsl ha];unfold M.page;rw[kU ha,dQ (by omega),aLd ha]
end
structure SmallM (m : DMove) : Prop where
 f:SmallH m.From
 t:SmallH m.To
 l:m.Left.length<=1048576
theorem aTi:SmallM M.zeroM:=⟨⟨by decide,by decide,λg hg=>nomatch hg⟩,⟨by decide,by decide,λg hg=>nomatch hg⟩,by decide⟩
structure MOk (m : DMove) (x y : DGuest) : Prop where
 sf:SmallH m.From
 st:SmallH m.To
 here:Live m.From m.G x
 there:Live m.To m.N y
 len:m.Left.length=8
 clean:∀p,p<8->(x.Pages.getD p default).Dirty=false
 same:∀p,p<8->m.Left.getD p default=false->M.page (M.mem m.From.Words x.Pages) p=M.page (M.mem m.To.Words y.Pages) p
section
variable {m : DMove} {x y : DGuest}
theorem bLo(hs:SmallM m)(h:M.moveOk m=true):MOk m (m.From.Guests.getD m.G.toNat default) (m.To.Guests.getD m.N.toNat default):=by unfold M.moveOk at h;simp only[bA,decide_eq_true_eq,List.all_eq_true,List.mem_range]at h;obtain⟨⟨⟨h1,h2⟩,h3⟩,h4⟩:=h;have l1:=cC hs.f h1;have l2:=cC hs.t h2;refine⟨hs.f,hs.t,l1,l2,h3,λp hp=>?_,λp hp hl=>?_⟩;{have:=h4 p hp;unfold M.sentOk at this;rw[bA,Bool.not_eq_true']at this;exact this.1};{have:=h4 p hp;unfold M.sentOk at this;rw[bA,hl,Bool.false_or,decide_eq_true_eq]at this;have e:=this.2;unfold M.wordsAt M.slotAt at e;rwa[yC l1 hp,yC l2 hp]at e}
theorem MOk.small(k:MOk m x y):SmallM m:=⟨k.sf,k.st,by rw[k.len];omega⟩
theorem MOk.ok(k:MOk m x y):M.moveOk m=true:=by unfold M.moveOk;rw[gE.2 ⟨k.here.ok,k.here.lo,k.here.hi,by rw[k.here.at_];exact k.here.live⟩,gE.2 ⟨k.there.ok,k.there.lo,k.there.hi,by rw[k.there.at_];exact k.there.live⟩,dT k.len,Bool.true_and,Bool.true_and,Bool.true_and,List.all_eq_true];intro p hp;have hp:=List.mem_range.1 hp;unfold M.sentOk M.wordsAt M.slotAt;rw[k.here.at_,k.there.at_,k.clean p hp,bF,Bool.true_and];(cases hl:m.Left.getD p default with|true=>rfl|false=>rw[Bool.false_or,decide_eq_true_eq,yC k.here hp,yC k.there hp];exact k.same p hp hl)
theorem MOk.at_(k:MOk m x y):x=m.From.Guests.getD m.G.toNat default/\y=m.To.Guests.getD m.N.toNat default:=⟨k.here.at_.symm,k.there.at_.symm⟩
end
structure Got (h : DHost) (g : Int) (y : DGuest) (h' : DHost) (y' : DGuest) : Prop where
 small:SmallH h'
 live:Live h' g y'
 views:∀k:Nat,k<3->M.hostView h' (k:Int)=M.hostView h (k:Int)
 mem:M.mem h'.Words y'.Pages=M.mem h.Words y.Pages
section
variable {h : DHost} {g p : Int} {y : DGuest}
theorem aTv{h':DHost}{y':DGuest}(l:Live h g y)(l':Live h' g y')(e:M.hostView h' g=M.hostView h g):M.mem h'.Words y'.Pages=M.mem h.Words y.Pages:=by rw[vW l,vW l']at e;exact congrArg (λv=>v.1.Mem) e
theorem aMi (hs:SmallH h) (l:Live h g y) {f:Int} (p0:0<=p) (p1:p<=7) (f0:0<=f) (f1:f<20)
 (hm:((y.Pages.getD p.toNat default).Frame=f/\M.many (M.slots h.Guests) f=1)\/M.many (M.slots h.Guests) f=0):Got h g y (M.inFrame h g p f) (fQ y p.toNat f):=by
 have g0:=l.lo;have g1:=l.hi;have hmf:M.many (M.slots h.Guests) f=if(y.Pages.getD p.toNat default).Frame=f then 1 else 0:=by rcases hm with⟨q,hm⟩|hm;{rw[if_pos q,hm]};{rw[if_neg (yJ l (by omega) hm),hm]}
 have hok:=aFx l p0 p1 f0 f1 hmf;have l2:=aKk hs l p0 p1 f0 f1 hok;have hv:∀k:Nat,k<3->M.hostView (M.inFrame h g p f) (k:Int)=M.hostView h (k:Int):=λk hk=>aJi hs l p0 p1 f0 f1 hok (hm.imp And.left id) hk;have hg:=hv g.toNat (by omega);rw[show((g.toNat:Nat):Int)=g by omega]at hg;exact⟨wV hs l f0 f1,l2,hv,aTv l l2 hg⟩
theorem bDa(hs:SmallH h)(l:Live h g y)(h2:(M.hostFill h g p).2=true):∃y',0<=p/\p<=7/\Got h g y (M.hostFill h g p).1 y':=by obtain⟨x,lx,p0,p1,hc⟩:=aJs hs h2;have ex:x=y:=lx.at_.symm.trans l.at_;subst ex;rcases hc with⟨e,_⟩|⟨f,f0,f1,hm,e⟩;{rw[e];exact⟨x,p0,p1,hs,l,λ_ _=>rfl,rfl⟩};{rw[e];exact⟨_,p0,p1,aMi hs l p0 p1 f0 f1 (.inr hm)⟩}
theorem bDv(hs:SmallH h)(l:Live h g y)(h2:(M.hostCopy h g p).2=true):∃y',Got h g y (M.hostCopy h g p).1 y'/\y'.Pages.length=8/\(y'.Pages.getD p.toNat default).Write=true/\0<=(y'.Pages.getD p.toNat default).Frame:=by obtain⟨x,f,lx,p0,p1,f0,f1,e,hc⟩:=aKd hs h2;have ex:x=y:=lx.at_.symm.trans l.at_;subst ex;obtain⟨-,e1,e2⟩:=aIi (f:=f) l p0 p1;rw[e];exact⟨_,aMi hs l p0 p1 f0 f1 hc,e1,by rw[e2],by rw[e2];exact f0⟩
end
structure Put (h : DHost) (g : Int) (y : DGuest) (p : Nat) (ws : List Int) (h' : DHost) (y' : DGuest) : Prop where
 small:SmallH h'
 live:Live h' g y'
 page:∀q,q<8->M.page (M.mem h'.Words y'.Pages) q=if q=p then ws else M.page (M.mem h.Words y.Pages) q
 others:∀k:Nat,k<3->(k:Int)≠g->M.hostView h' (k:Int)=M.hostView h (k:Int)
section
variable {h : DHost} {g : Int} {y : DGuest} {p : Nat} {ws : List Int}
theorem bFg(hs:SmallH h)(l:Live h g y)(hp:p<8)(hw:(y.Pages.getD p default).Write=true)(hf:0<=(y.Pages.getD p default).Frame)(h8:ws.length=8)(hok:M.wordsOk ws=true):
 Put h g y p ws ⟨over h.Words ((y.Pages.getD p default).Frame.toNat*8) 8 ws,h.Guests⟩ y:=by
 have h3:=l.ok.three;have g0:=l.lo;have g1:=l.hi;have hpl:=l.pages;have hlw:=l.ok.len;have hsl:=cA l hp;have ol:(over h.Words ((y.Pages.getD p default).Frame.toNat*8) 8 ws).length=160:=(by rw[oZ (by omega),hlw]);have og:∀a,(over h.Words ((y.Pages.getD p default).Frame.toNat*8) 8 ws).getD a default=if a<(y.Pages.getD p default).Frame.toNat*8 then h.Words.getD a default else if a<(y.Pages.getD p default).Frame.toNat*8+8 then ws.getD (a-(y.Pages.getD p default).Frame.toNat*8) default else h.Words.getD a default:=λa=>vF h8 (by omega)
 have k2:HOk ⟨over h.Words ((y.Pages.getD p default).Frame.toNat*8) 8 ws,h.Guests⟩:=(by refine⟨ol,?_,h3,l.ok.all,l.ok.alone⟩;rw[kL];intro a ha;rw[ol]at ha;have w1:=kL.1 l.ok.words a (by omega);rw[og];split;{exact w1};{split;{exact kL.1 hok _ (by omega)};{exact w1}});have l2:Live ⟨over h.Words ((y.Pages.getD p default).Frame.toNat*8) 8 ws,h.Guests⟩ g y:=⟨l.small,k2,g0,g1,l.at_,l.live,l.core,hpl,l.slots,l.inn,l.out⟩
 have far:∀{k q b:Nat},k<3->q<(h.Guests.getD k default).Pages.length->((k:Int)≠g\/q≠p)->-1<=((h.Guests.getD k default).Pages.getD q default).Frame->b<8->¬((h.Guests.getD k default).Pages.getD q default).Frame<0->
  (over h.Words ((y.Pages.getD p default).Frame.toNat*8) 8 ws).getD (((h.Guests.getD k default).Pages.getD q default).Frame.toNat*8+b) default=h.Words.getD (((h.Guests.getD k default).Pages.getD q default).Frame.toNat*8+b) default:=λ{k q b} hk hq hn _ hb hz=>by
  have ne:=zS hs l hp hw (by omega) hk hq hn;rw[og];split;{rfl};{split;{omega};{rfl}}
 refine⟨⟨by show(over _ _ _ _).length<=_;omega,hs.guests,hs.all⟩,l2,λq hq=>?_,λk hk hn=>?_⟩
 · have l8:(M.page (M.mem h.Words y.Pages) q).length=8:=jS (by rw[cH];omega)
   refine gL (n:=8) (jS (by rw[cH];omega)) (by split;exact h8;exact l8) λa ha=>?_;have e:M.page (M.mem (over h.Words ((y.Pages.getD p default).Frame.toNat*8) 8 ws) y.Pages) q=M.page (M.mem (over h.Words ((y.Pages.getD p default).Frame.toNat*8) 8 ws) y.Pages) q:=rfl;show(M.page (M.mem (over h.Words ((y.Pages.getD p default).Frame.toNat*8) 8 ws) y.Pages) q).getD a default=_;have lhs:(M.page (M.mem (over h.Words ((y.Pages.getD p default).Frame.toNat*8) 8 ws) y.Pages) q).getD a default=if(y.Pages.getD q default).Frame<0 then 0 else(over h.Words ((y.Pages.getD p default).Frame.toNat*8) 8 ws).getD ((y.Pages.getD q default).Frame.toNat*8+a) default:=by unfold M.page;rw[kU ha,dQ (by omega),aLd ha]
   rw[lhs];by_cases eq:q=p;{subst eq;rw[if_pos rfl,if_neg (by omega),og,if_neg (by omega),if_pos (by omega)];congr 1;omega};{rw[if_neg eq];unfold M.page;rw[kU ha,dQ (by omega),aLd ha];by_cases z:(y.Pages.getD q default).Frame<0;{rw[if_pos z,if_pos z]};{rw[if_neg z,if_neg z];have hat:=l.at_;have hsq:=cA l hq;have:=far (k:=g.toNat) (q:=q) (b:=a) (by omega) (by rw[hat];omega) (.inr eq) (by rw[hat];exact hsq.1) ha (by rw[hat];exact z);rwa[hat]at this}}
 {unfold M.hostView M.there;rw[cM.2 k2,cM.2 l.ok,iT];simp only;(cases ht:(true&&(M.inR 0 2 (k:Int)&&(h.Guests.getD k default).Live))with|false=>rfl|true=>have lk:Live h (k:Int) (h.Guests.getD (k:Int).toNat default):=cC hs (by unfold M.there;rw[cM.2 l.ok,iT];exact ht);rw[iT]at lk;have:M.mem (over h.Words ((y.Pages.getD p default).Frame.toNat*8) 8 ws) (h.Guests.getD k default).Pages=M.mem h.Words (h.Guests.getD k default).Pages:=(by refine gL cH cH λa ha=>?_;rw[dQ ha,dQ ha];unfold M.word;have hsq:=cA lk (p:=a/8) (by omega);have hlk:=lk.pages;by_cases z:((h.Guests.getD k default).Pages.getD (a/8) default).Frame<0;{rw[if_pos z,if_pos z]};{rw[if_neg z,if_neg z];exact far hk (by omega) (.inl hn) hsq.1 (by omega) z});rw[this])}
theorem Got.put{h1:DHost}{y1:DGuest}{h2:DHost}{y2:DGuest}(a:Got h g y h1 y1)(b:Put h1 g y1 p ws h2 y2):Put h g y p ws h2 y2:=⟨b.small,b.live,λq hq=>by rw[b.page q hq,a.mem],λk hk hn=>(b.others k hk hn).trans (a.views k hk)⟩
theorem Got.trans{h1:DHost}{y1:DGuest}{h2:DHost}{y2:DGuest}(a:Got h g y h1 y1)(b:Got h1 g y1 h2 y2):Got h g y h2 y2:=⟨b.small,b.live,λk hk=>(b.views k hk).trans (a.views k hk),b.mem.trans a.mem⟩
theorem bAb(hz:M.zeros ws=true){a:Nat}(ha:a<8):ws.getD a default=0:=by unfold M.zeros at hz;exact of_decide_eq_true (List.all_eq_true.1 hz a (List.mem_range.2 ha))
theorem bBu{q:Int}(hs:SmallH h)(l:Live h g y)(q0:0<=q)(q1:q<=7)(h8:ws.length=8)(hok:M.wordsOk ws=true)(h2:(M.placeW h g q ws).2=true):∃y',Put h g y q.toNat ws (M.placeW h g q ws).1 y':=by
 unfold M.placeW at h2 ⊢;cases hz:M.zeros ws with
 |true=>
  have hq:([q]:List Int).all (M.inR 0 7)=true:=(by simp[M.inR,q0,q1]);have th:M.there h g=true:=gE.2 ⟨l.ok,l.lo,l.hi,by rw[l.at_];exact l.live⟩;have e:M.hostGive h g [q]=(⟨h.Words,h.Guests.set g.toNat (M.giveG y [q])⟩,true):=(by unfold M.hostGive;rw[th,hq,l.at_];rfl);rw[cTq,e];refine⟨M.giveG y [q],aIy hs l,bCd hs l,λr hr=>?_,λk hk hn=>bAs l hk hn⟩;have l8:(M.page (M.mem h.Words y.Pages) r).length=8:=jS (by rw[cH];omega);refine gL (n:=8) (jS (by rw[cH];omega)) (by split;exact h8;exact l8) λa ha=>?_;show(M.page (M.mem h.Words (M.giveG y [q]).Pages) r).getD a default=_;have lhs:(M.page (M.mem h.Words (M.giveG y [q]).Pages) r).getD a default=if((r:Nat):Int)∈([q]:List Int)then 0 else(M.mem h.Words y.Pages).getD (r*8+a) default:=by have:=bDh l hq (b:=r*8+a) (by omega);rw[show(r*8+a)/8=r by omega]at this;rw[<-this];unfold M.page;rw[kU ha]
  rw[lhs];by_cases er:r=q.toNat
  {rw[if_pos er,if_pos (by rw[List.mem_singleton];omega),bAb hz ha]};{rw[if_neg er,if_neg (by rw[List.mem_singleton];omega)];unfold M.page;rw[kU ha]}
 |false=>rw[hz,cFq]at h2;rw[cFq];unfold M.framed at h2 ⊢;(cases f2:(M.hostFill h g q).2 with|false=>rw[f2]at h2;cases h2|true=>rw[f2,cTq]at h2;rw[cTq];obtain⟨y1,-,-,a⟩:=bDa hs l f2;(cases c2:(M.hostCopy (M.hostFill h g q).1 g q).2 with|false=>rw[c2]at h2;cases h2|true=>rw[cTq];obtain⟨y2,b,-,bw,bf⟩:=bDv a.small a.live c2;refine⟨y2,(a.trans b).put ?_⟩;have:=bFg (p:=q.toNat) b.small b.live (by omega) bw bf h8 hok;unfold M.slotAt;rw[b.live.at_];exact this))
end
structure Did (m m' : DMove) (st : Bool) : Prop where
 g:m'.G=m.G
 n:m'.N=m.N
 ok:∃x y,MOk m' x y
 view:M.hostView m'.From m.G=bif st then(M.step (M.hostView m.From m.G).1,true)else M.hostView m.From m.G
 here:∀k:Nat,k<3->(k:Int)≠m.G->M.hostView m'.From (k:Int)=M.hostView m.From (k:Int)
 there:∀k:Nat,k<3->(k:Int)≠m.N->M.hostView m'.To (k:Int)=M.hostView m.To (k:Int)
theorem aFl{ls:List Bool}{ps:List DSlot}:(M.dirtied ls ps).length=8:=by simp[M.dirtied]
theorem aTo{ls:List Bool}{ps:List DSlot}{p:Nat}(hp:p<8):(M.dirtied ls ps).getD p default=(ls.getD p default||(ps.getD p default).Dirty):=by rw[aW (by rw[aFl];exact hp)];simp[M.dirtied]
section
variable {m : DMove} {x y : DGuest}
theorem bEh(k:MOk m x y)(h2:(M.moveStep m).2=true):Did m (M.moveStep m).1 true:=by have g0:=k.here.lo;have g1:=k.here.hi;have hst:(M.hostStep m.From m.G).2=true:=(by unfold M.moveStep at h2;(cases e:(M.hostStep m.From m.G).2 with|true=>rfl|false=>rw[e]at h2;cases h2));rcases aLa (g:=m.G) k.sf with⟨_,e⟩|⟨_,_,e⟩|⟨x0,h',x1,y1,l0,r,hy,e⟩;{rw[e]at hst;cases hst};{rw[e]at hst;cases hst};{have ex:x0=x:=l0.at_.symm.trans k.here.at_;subst ex;have tv:=aXt (h:=M.ran h' m.G x1) (g:=m.G);rw[hy.view]at tv;have hR:Live (M.ran h' m.G x1) m.G y1:=(by have:=cC hy.small tv.symm;rwa[hy.at_]at this);have em:(M.moveStep m).1=⟨M.cleanAt (M.ran h' m.G x1) m.G,m.To,m.G,m.N,M.dirtied m.Left y1.Pages⟩:=(by unfold M.moveStep;rw[e,cTq];simp only;rw[hy.at_]);have hv:=hy.view;rw[vW hR,r.same]at hv;have hmem:M.mem (M.ran h' m.G x1).Words y1.Pages=(M.step (M.vw m.From.Words x0)).Mem:=congrArg (λv=>v.1.Mem) hv;have hold:M.mem h'.Words x1.Pages=M.mem m.From.Words x0.Pages:=congrArg DBare.Mem r.same;have cv:=λ(j:Nat) (hj:j<3)=>aDd hy.small hR hj;rw[em];refine⟨rfl,rfl,⟨M.mapG M.clean y1,y,sY hy.small hR,k.st,vS hy.small hR,k.there,aFl,λp hp=>?_,λp hp hl=>?_⟩,?_,λj hj hn=>?_,λ_ _ _=>rfl⟩;{show((y1.Pages.map M.clean).getD p default).Dirty=false;rw[aHs (by have:=hR.pages;omega)];rfl};{have hl:(M.dirtied m.Left y1.Pages).getD p default=false:=hl;rw[aTo hp,Bool.or_eq_false_iff]at hl;have e1:=k.same p hp hl.1;rw[<-e1];show M.page (M.mem (M.cleanAt (M.ran h' m.G x1) m.G).Words (M.mapG M.clean y1).Pages) p=_;rw[aFa hR,hmem];refine gL (n:=8) (jS (by rw[<-hmem,cH];omega)) (jS (by rw[cH];omega)) λa ha=>?_;unfold M.page;rw[kU ha,kU ha];apply Classical.byContradiction;intro hn;have:=hy.told (p*8+a) (by omega) (by rw[hold,r.same];exact λq=>hn q.symm);rw[show(p*8+a)/8=p by omega,hl.2]at this;cases this};{show M.hostView (M.cleanAt (M.ran h' m.G x1) m.G) m.G=_;have:=cv m.G.toNat (by omega);rw[show((m.G.toNat:Nat):Int)=m.G by omega]at this;rw[this,hy.view,r.same,aBt k.here];rfl};{show M.hostView (M.cleanAt (M.ran h' m.G x1) m.G) (j:Int)=_;rw[cv j hj,hy.others j hj hn,r.views j hj]}}
theorem bCz{h:DHost}{g:Int}{x:DGuest}(l:Live h g x){p:Nat}(hp:p<8):(M.pageWords h.Words (x.Pages.getD p default)).length=8/\M.wordsOk (M.pageWords h.Words (x.Pages.getD p default))=true:=by have hsl:=cA l hp;have hlw:=l.ok.len;have h8:=iX (ws:=h.Words) hlw hsl;refine⟨h8,?_⟩;rw[kL];intro a ha;rw[h8]at ha;rw[lD hsl ha];split;{rfl};{exact kL.1 l.ok.words _ (by omega)}
theorem bEs(k:MOk m x y){q:Int}(q0:0<=q)(q1:q<=7)(h2:(M.moveSend m q).2=true):Did m (M.moveSend m q).1 false/\(M.moveSend m q).1.Left=m.Left.set q.toNat false:=by
 have hp:q.toNat<8:=(by omega);have hwa:M.wordsAt m.From m.G q.toNat=M.pageWords m.From.Words (x.Pages.getD q.toNat default):=(by unfold M.wordsAt M.slotAt;rw[k.here.at_]);obtain⟨w8,wok⟩:=bCz k.here hp;have hpl:(M.placeW m.To m.N q (M.wordsAt m.From m.G q.toNat)).2=true:=(by unfold M.moveSend at h2;(cases e:(M.placeW m.To m.N q (M.wordsAt m.From m.G q.toNat)).2 with|true=>rfl|false=>rw[e]at h2;cases h2));have em:(M.moveSend m q).1=⟨m.From,(M.placeW m.To m.N q (M.wordsAt m.From m.G q.toNat)).1,m.G,m.N,m.Left.set q.toNat false⟩:=(by unfold M.moveSend;rw[hpl];rfl);rw[em];rw[hwa]at hpl ⊢;obtain⟨y',P⟩:=bBu k.st k.there q0 q1 w8 wok hpl;refine⟨⟨rfl,rfl,⟨x,y',k.sf,P.small,k.here,P.live,by show(m.Left.set _ _).length=8;rw[lS];exact k.len,k.clean,λp hp8 hl=>?_⟩,rfl,λ_ _ _=>rfl,P.others⟩,rfl⟩;have hl:(m.Left.set q.toNat false).getD p default=false:=hl;show M.page (M.mem m.From.Words x.Pages) p=M.page (M.mem (M.placeW m.To m.N q (M.pageWords m.From.Words (x.Pages.getD q.toNat default))).1.Words y'.Pages) p;rw[P.page p hp8];by_cases e:p=q.toNat
 {rw[if_pos e,e,yC k.here hp]};{rw[if_neg e];refine k.same p hp8 ?_;rwa[List.getD_eq_getElem?_getD,List.getElem?_set,if_neg (λc=>e c.symm),<-List.getD_eq_getElem?_getD]at hl}
theorem bLr(hs:SmallM m){a:DAct}(h2:(M.moveDo m a).2=true):M.moveOk m=true/\Did m (M.moveDo m a).1 (decide (a.Kind=1)):=by unfold M.moveDo at h2 ⊢;(cases ho:M.moveOk m with|false=>rw[ho]at h2;cases h2|true=>have k:=bLo hs ho;rw[ho,cTq]at h2;rw[cTq];refine⟨rfl,?_⟩;(cases h1:decide (a.Kind=1)with|true=>rw[h1,cTq]at h2;exact bEh k h2|false=>rw[h1,cFq]at h2;rw[cFq];(cases hc:(decide (a.Kind=2)&&M.inR 0 7 a.Page)with|false=>rw[hc]at h2;cases h2|true=>rw[hc,cTq]at h2;rw[bA]at hc;obtain⟨p0,p1⟩:=M.inR_iff.1 hc.2;exact(bEs k p0 p1 h2).1)))
structure End (m : DMove) (a b : DHost) : Prop where
 sa:SmallH a
 sb:SmallH b
 oa:M.hostOk a=true
 ob:M.hostOk b=true
 view:M.hostView b m.N=M.hostView m.From m.G
 gone:(M.hostView a m.G).2=false
 here:∀k:Nat,k<3->(k:Int)≠m.G->M.hostView a (k:Int)=M.hostView m.From (k:Int)
 there:∀k:Nat,k<3->(k:Int)≠m.N->M.hostView b (k:Int)=M.hostView m.To (k:Int)
end
section
variable {a b : DHost} {g : Int}
structure Begun (a b : DHost) (g : Int) (m : DMove) : Prop where
 ok:∃x y,MOk m x y
 eg:m.G=g
 left:m.Left=List.replicate 8 true
 here:∀k:Nat,k<3->M.hostView m.From (k:Int)=M.hostView a (k:Int)
 there:∀k:Nat,k<3->(k:Int)≠m.N->M.hostView m.To (k:Int)=M.hostView b (k:Int)
 was:M.there a g=true
theorem aQu{x:DGuest}{f:Int}(hf:f≠-1):M.many (M.arrival x).Pages f=0:=by unfold M.many;rw[List.countP_eq_zero];intro s hs;rw[(List.mem_replicate.1 (show s∈List.replicate 8 M.nowhere from hs)).2,decide_eq_true_eq];exact λe=>hf e.symm
theorem aPa(ha:SmallH a)(hb:SmallH b)(h2:(M.moveBegin a b g).2=true):Begun a b g (M.moveBegin a b g).1:=by unfold M.moveBegin at h2 ⊢;(cases hc:(M.there a g&&M.hostOk b&&decide (M.gone b.Guests≠-1))with|false=>rw[hc]at h2;cases h2|true=>simp only[bA,decide_eq_true_eq]at hc;obtain⟨⟨th,ok⟩,hn⟩:=hc;rw[cTq];have l:=cC ha th;obtain⟨n,n3,en,hd⟩:=bBy hn;generalize hx:a.Guests.getD g.toNat default=x at l;have kb:=cM.1 ok;have b3:=kb.three;have ga:M.guestOk (M.arrival x)=true:=(tY (x:=M.arrival x) rfl).2 ⟨l.core,by show(List.replicate 8 M.nowhere).length=8;rw[List.length_replicate],by show(List.replicate 8 M.nowhere).all M.slotOk=true;decide,l.inn,l.out⟩;have ok2:HOk ⟨b.Words,b.Guests.set n (M.arrival x)⟩:=aWn kb n3 ga (λs hs hw=>by rw[(List.mem_replicate.1 (show s∈List.replicate 8 M.nowhere from hs)).2]at hw;cases hw) (λf hf=>by rw[aQu hf];exact Nat.zero_le _);have sm2:SmallH ⟨b.Words,b.Guests.set n (M.arrival x)⟩:=aCf hb ⟨l.small.c,by show(List.replicate 8 M.nowhere).length<=_;rw[List.length_replicate];omega,l.small.i,l.small.o⟩;have l2:Live ⟨b.Words,b.Guests.set n (M.arrival x)⟩ (n:Int) (M.arrival x):=(by have:=aQh (g:=(n:Int)) (h:=b) (y:=M.arrival x) (by rw[iT];exact sm2) (by rw[iT];exact ok2) b3 (by omega) (by omega) rfl;rwa[iT]at this);rw[en,iT];refine⟨⟨M.mapG M.clean x,M.arrival x,sY ha l,sm2,vS ha l,l2,by show(List.replicate 8 true).length=8;rw[List.length_replicate],λp hp=>?_,λp hp hl=>?_⟩,rfl,rfl,λk hk=>aDd ha l hk,λk hk hn=>aSh kb ok2 hk (λe=>hn (by rw[e])),th⟩;{show((x.Pages.map M.clean).getD p default).Dirty=false;rw[aHs (by have:=l.pages;omega)];rfl};{have hl:(List.replicate 8 true).getD p default=false:=hl;rw[aW (by rw[List.length_replicate];exact hp),List.getElem_replicate]at hl;cases hl})
theorem aTm(ha:SmallH a)(hb:SmallH b):SmallM (M.moveBegin a b g).1:=by
 (cases h2:(M.moveBegin a b g).2 with|true=>obtain⟨_,_,k⟩:=(aPa ha hb h2).ok;exact k.small|false=>have:(M.moveBegin a b g).1=M.zeroM:=(by unfold M.moveBegin at h2 ⊢;(cases hc:(M.there a g&&M.hostOk b&&decide (M.gone b.Guests≠-1))with|false=>rfl|true=>rw[hc]at h2;cases h2));rw[this];exact aTi)
end
namespace M
def send(p:Nat):DAct:=⟨2,(p:Int)⟩
noncomputable def act (s:DMove×Int)(a:DAct):DMove×Int:=bif (moveDo s.1 a).2 then((moveDo s.1 a).1,bif decide (a.Kind=1)then s.2+1 else s.2)else s
def sends(ls:List Bool):List DAct:=((List.range ls.length).filter λp=>ls.getD p default).map send
noncomputable def sentAll (m:DMove):DMove:=((sends m.Left).foldl act (m,0)).1
end M
structure Mv (a b : DHost) (g n : Int) (s : DMove × Int) (c : Nat) : Prop where
 ok:M.moveOk s.1=true
 small:SmallM s.1
 eg:s.1.G=g
 en:s.1.N=n
 num:s.2=(c:Int)
 view:M.hostView s.1.From g=(M.steps c (M.hostView a g).1,true)
 here:∀k:Nat,k<3->(k:Int)≠g->M.hostView s.1.From (k:Int)=M.hostView a (k:Int)
 there:∀k:Nat,k<3->(k:Int)≠n->M.hostView s.1.To (k:Int)=M.hostView b (k:Int)
section
variable {a b : DHost} {g n : Int} {s : DMove × Int} {c : Nat}
theorem Mv.act(v:Mv a b g n s c)(t:DAct):∃c',Mv a b g n (M.act s t) c'/\c<=c'/\c'<=c+1:=by unfold M.act;(cases h2:(M.moveDo s.1 t).2 with|false=>exact⟨c,v,Nat.le_refl _,Nat.le_succ _⟩|true=>obtain⟨_,d⟩:=bLr v.small h2;obtain⟨x,y,k⟩:=d.ok;have vg:=v.eg;have vn:=v.en;have vw:=d.view;rw[vg,v.view]at vw;have vh:∀k:Nat,k<3->(k:Int)≠g->M.hostView (M.moveDo s.1 t).1.From (k:Int)=M.hostView a (k:Int):=λk hk hn=>(d.here k hk (by rw[vg];exact hn)).trans (v.here k hk hn);have vt:∀k:Nat,k<3->(k:Int)≠n->M.hostView (M.moveDo s.1 t).1.To (k:Int)=M.hostView b (k:Int):=λk hk hn=>(d.there k hk (by rw[vn];exact hn)).trans (v.there k hk hn);rw[cTq];(cases h1:decide (t.Kind=1)with|false=>rw[h1,cFq]at vw;exact⟨c,⟨k.ok,k.small,d.g.trans vg,d.n.trans vn,v.num,vw,vh,vt⟩,Nat.le_refl _,Nat.le_succ _⟩|true=>rw[h1,cTq]at vw;exact⟨c+1,⟨k.ok,k.small,d.g.trans vg,d.n.trans vn,by show s.2+1=_;rw[v.num];omega,vw,vh,vt⟩,Nat.le_succ _,Nat.le_refl _⟩))
theorem Mv.acts(v:Mv a b g n s c):∀(ts:List DAct),∃c',Mv a b g n (ts.foldl M.act s) c'/\c'<=c+ts.length:=by
 intro ts;induction ts generalizing s c with
 |nil=>exact⟨c,v,Nat.le_refl _⟩
 |cons t ts ih=>obtain⟨c1,v1,-,b1⟩:=v.act t;obtain⟨c2,v2,b2⟩:=ih v1;exact⟨c2,v2,by rw[List.length_cons];omega⟩
end
namespace M
noncomputable def tr (m:DMove)(p:Nat):DMove:=bif (moveDo m (send p)).2 then(moveDo m (send p)).1 else m
noncomputable def im (ls:List Bool)(m:DMove)(k:Nat):DMove:=(List.range k).foldl (λm p=>bif ls.getD p default then tr m p else m) m
noncomputable def sp (m:DMove)(k:Nat):DMove:=(List.range k).foldl (λm p=>bif m.Left.getD p default then(moveDo m (send p)).1 else m) m
end M
theorem bEt{m:DMove}{c:Int}{p:Nat}:M.act (m,c) (M.send p)=(M.tr m p,c):=by unfold M.act M.tr;cases(M.moveDo m (M.send p)).2<;>rfl
theorem aOb{ls:List Bool}{m:DMove}{c:Int}:(M.sends ls).foldl M.act (m,c)=(M.im ls m ls.length,c):=by
 unfold M.sends M.im;rw[List.foldl_map,List.foldl_filter];generalize List.range ls.length=ps;induction ps generalizing m with
 |nil=>rfl
 |cons p ps ih=>rw[List.foldl_cons,List.foldl_cons];(cases hp:ls.getD p default with|true=>rw[if_pos rfl,bEt,cTq];exact ih|false=>rw[if_neg (by simp),cFq];exact ih)
section
variable {m : DMove}
end
theorem Mv.sent{a b:DHost}{g n:Int}{s:DMove×Int}{c:Nat}(v:Mv a b g n s c):Mv a b g n (M.sentAll s.1,s.2) c:=by have e:(M.sends s.1.Left).foldl M.act (s.1,s.2)=(M.sentAll s.1,s.2):=(by unfold M.sentAll;rw[aOb,aOb]);obtain⟨c',v',_⟩:=Mv.acts (s:=(s.1,s.2)) v (M.sends s.1.Left);rw[e]at v';have h1:=v'.num;have h2:=v.num;have:c'=c:=(by simp only at h1;omega);rwa[this]at v'
structure Moved (a b : DHost) (g : Int) (r : DHost × DHost × Int × Int × Bool) (c : Nat) : Prop where
 sa:SmallH r.1
 sb:SmallH r.2.1
 num:r.2.2.2.1=(c:Int)
 most:c<=100
 was:M.there a g=true
 view:M.hostView r.2.1 r.2.2.1=(M.steps c (M.hostView a g).1,true)
 here:∀k:Nat,k<3->(k:Int)≠g->M.hostView r.1 (k:Int)=M.hostView a (k:Int)
 there:∀k:Nat,k<3->(k:Int)≠r.2.2.1->M.hostView r.2.1 (k:Int)=M.hostView b (k:Int)
section
variable {a b : DHost} {g : Int} {acts : List DAct}
end
theorem aTc{a b:List Int}(h:a.length=b.length)(h8:a.length<=1048576):kO a b=some (decide (a=b)):=by
 unfold kO
 have key:=aMy (n:=a.length) (step:=iP a b) (λk=>k) (λi=>decide (a.getD i default=b.getD i default)) (.go ()) (.out false) (λi hi=>by
  simp only[iP,iT];rw[dT (p:=(i:Int)<_) (by omega),cTq,aF ⟨by omega,by omega⟩,aF ⟨by omega,by omega⟩,aH (by omega) (by omega)];cases decide (a.getD i default=b.getD i default)<;>rfl) (by
  simp only[iP];rw[dF (by omega),cFq])
 rw[key]
 have e:(List.range a.length).all (λi=>decide (a.getD i default=b.getD i default))=decide (a=b):=by
  apply dbe;rw[List.all_eq_true,decide_eq_true_eq];constructor;{intro hh;exact gL rfl h.symm λi hi=>of_decide_eq_true (hh i (List.mem_range.2 hi))}
  · rintro rfl i _;exact dT rfl
 rw[e];cases decide (a=b)<;>rfl
section
variable {h : DHost} {g : Int} {x : DGuest}
theorem yK(l:Live h g x){p:Nat}:M.wordsAt h g p=M.pageWords h.Words (x.Pages.getD p default):=by unfold M.wordsAt M.slotAt;rw[l.at_]
theorem aFo(l:Live h g x){p:Nat}(hp:p<8):(M.wordsAt h g p).length=8:=by rw[yK l];exact iX l.ok.len (cA l hp)
end
section
variable {m : DMove}
theorem bFi{x y:DGuest}(l:Live m.From m.G x)(k:Live m.To m.N y){p:Nat}(hp:p<8):oI m (p:Int)=some (decide (M.wordsAt m.From m.G p=M.wordsAt m.To m.N p)):=by have l3:=l.ok.three;have:=l.lo;have:=l.hi;have lp:=l.pages;have k3:=k.ok.three;have:=k.lo;have:=k.hi;have kp:=k.pages;have w1:=aFo l hp;have w2:=aFo k hp;unfold oI;simp only[l.at_,k.at_,iT];rw[aF ⟨by omega,by omega⟩,aF ⟨by omega,by omega⟩,aF ⟨by omega,by omega⟩,aF ⟨by omega,by omega⟩];show Option.bind (eL m.From.Words (x.Pages.getD p default)) _=_;rw[aFc l.ok.len (cA l hp),oB];show Option.bind (eL m.To.Words (y.Pages.getD p default)) _=_;rw[aFc k.ok.len (cA k hp),oB,<-yK l,<-yK k,aTc (by omega) (by omega)];rfl
theorem bDl(hs:SmallM m):oF m=some (M.moveOk m):=by
 unfold oF M.moveOk;rw[tX hs.f,oB];cases h1:M.there m.From m.G with
 |false=>rfl
 |true=>
  rw[bT,cFq,tX hs.t,oB];cases h2:M.there m.To m.N with
  |false=>rfl
  |true=>
   rw[bT,cFq];by_cases h3:m.Left.length=8
   · have l:=cC hs.f h1;have k:=cC hs.t h2
     have l3:=l.ok.three;have:=l.lo;have:=l.hi;have lp:=l.pages;rw[dT h3,dT (by omega),bT,cFq,aF ⟨by omega,by omega⟩]
     have key:=fC (n:=8) (step:=kR m) (λp=>(p:Int)) (M.sentOk m) (JO.go ()) (.out false) (λp hp _=>by
      simp only[kR,iT];rw[dT (p:=(p:Int)<_) (by omega),cTq,aF ⟨by omega,by omega⟩];unfold M.sentOk M.slotAt;cases((m.From.Guests.getD m.G.toNat default).Pages.getD p default).Dirty with
      |true=>rfl
      |false=>
       rw[cFq,aF ⟨by omega,by omega⟩];cases m.Left.getD p default with
       |true=>simp only[bT,cFq,oB,JO.run,oU];rw[aH (by omega) (by omega)];rfl
       |false=>
        rw[bF,cTq,bFi l k hp,oB];cases decide (M.wordsAt m.From m.G p=M.wordsAt m.To m.N p)with
        |false=>rfl
        |true=>simp only[bT,cFq,oB,JO.run,oU];rw[aH (by omega) (by omega)];rfl) (λ_=>by
      simp only[kR];rw[dF (by omega)];rfl)
     rw[show(0:Int)=((0:Nat):Int)from rfl,key];cases(List.range 8).all (M.sentOk m)<;>rfl
   {rw[dF h3,dF (by omega)];rfl}
end
theorem aHp{g:DGuest}(hs:SmallG g)(h:g.Live=true\/g=M.noGuest):cQ g=some g:=by rcases h with hl|rfl;{unfold cQ;rw[hl,bT,cFq,fB hs.c.regs,rK hs.pages,fB hs.i,fB hs.o];simp only[oB];rw[<-hl]};{rfl}
theorem aHx{h:DHost}(hs:SmallH h)(hl:∀g∈h.Guests,g.Live=true\/g=M.noGuest):dG h=some h:=by
 unfold dG eH;have hg:=hs.guests;rw[fB hs.words,oB,aF ⟨by omega,by omega,by omega⟩]
 have key:=aMp (xs:=h.Guests) (ys:=List.replicate (Int.toNat (h.Guests.length:Int)) M.noGuest) (step:=bV h.Guests) (by simp) (λk zs hk hz=>by
  have h1:(k:Int)<(h.Guests.length:Int):=(by omega);simp only[bV,dT h1,cTq];rw[aF ⟨by omega,h1⟩,iT];show Option.bind (cQ (h.Guests.getD k default)) _=_;rw[aHp (hs.all _ (bY hk)) (hl _ (bY hk)),oB,aF ⟨by omega,by omega⟩,aH (by omega) (by omega)]) (λzs hz=>by
  simp only[bV];rw[dF (by omega),cFq])
 show Option.bind (Option.bind (Option.bind (iter (bV h.Guests) (List.replicate (Int.toNat (h.Guests.length:Int)) M.noGuest,0)) LO.val) _) _=_;rw[key];rfl
theorem aYb:dL=some (List.replicate 8 M.nowhere):=by
 unfold dL
 have key:=fC (n:=8) (step:=cO) (λk=>(up (λ_=>M.nowhere) k (List.replicate 8 ⟨0,false,false⟩),(k:Int))) (λ_=>true) (JO.go (List.replicate 8 M.nowhere)) (JO.go (List.replicate 8 M.nowhere)) (λk hk _=>by
  have hl:=xP (f:=λ_=>M.nowhere) (k:=k) (xs:=List.replicate 8 (⟨0,false,false⟩:DSlot));rw[List.length_replicate]at hl;have hp:=aDc (f:=λ_=>M.nowhere) (k:=k) (xs:=List.replicate 8 (⟨0,false,false⟩:DSlot)) (by rw[List.length_replicate];omega);simp only[cO,iT];rw[dT (p:=(k:Int)<_) (by rw[List.length_replicate];omega),cTq,aF ⟨by omega,by omega⟩,aH (by omega) (by omega),cTq,<-hp];rfl) (λ_=>by
  simp only[cO];rw[aCn (by rw[List.length_replicate];omega)];rfl)
 rw[Bool.cond_self]at key;have e:up (λ_=>M.nowhere) 0 (List.replicate 8 (⟨0,false,false⟩:DSlot))=List.replicate 8 ⟨0,false,false⟩:=xT;rw[e]at key;show Option.bind (Option.bind (iter cO (List.replicate 8 ⟨0,false,false⟩,((0:Nat):Int))) LO.val) _=_;rw[key];rfl
theorem bAy:kG=some (List.replicate 8 true):=by
 unfold kG
 have key:=fC (n:=8) (step:=gV) (λk=>(up (λ_=>true) k (List.replicate 8 false),(k:Int))) (λ_=>true) (JO.go (List.replicate 8 true)) (JO.go (List.replicate 8 true)) (λk hk _=>by
  have hl:=xP (f:=λ_=>true) (k:=k) (xs:=List.replicate 8 false);rw[List.length_replicate]at hl;have hp:=aDc (f:=λ_=>true) (k:=k) (xs:=List.replicate 8 false) (by rw[List.length_replicate];omega);simp only[gV,iT];rw[dT (p:=(k:Int)<_) (by rw[List.length_replicate];omega),cTq,aF ⟨by omega,by omega⟩,aH (by omega) (by omega),cTq,<-hp];rfl) (λ_=>by
  simp only[gV];rw[aCn (by rw[List.length_replicate];omega)];rfl)
 rw[Bool.cond_self]at key;have e:up (λ_=>true) 0 (List.replicate 8 false)=List.replicate 8 false:=xT;rw[e]at key;show Option.bind (Option.bind (iter gV (List.replicate 8 false,((0:Nat):Int))) LO.val) _=_;rw[key];rfl
section
variable {a b : DHost} {g : Int}
theorem aTf(ha:SmallH a)(hb:SmallH b):fO a b g=some (M.moveBegin a b g):=by
 unfold fO M.moveBegin;rw[tX ha,oB];cases ht:M.there a g with
 |false=>rfl
 |true=>
  have l:=cC ha ht;have l3:=l.ok.three;have:=l.lo;have:=l.hi;have lp:=l.pages;rw[bT,cFq,aPx hb,oB,Bool.true_and];cases ho:M.hostOk b with
  |false=>rfl
  |true=>
   have kb:=cM.1 ho;have b3:=kb.three;have hr:=zU b.Guests;rw[bT,cFq,aTj b3,oB,Bool.true_and];by_cases e:M.gone b.Guests=-1;{rw[dT e,dF (by simp[e])];rfl}
   · have sx:=l.small
     rw[dF e,dT e,cFq,cTq,aNh ha l.ok,oB,aF ⟨by omega,by omega⟩,aYl (by omega),oB,aF ⟨by omega,by omega⟩,aYb,oB,aTe hb kb (by omega) (by omega),oB,aTt l,oB]
     have gl:∀y:DGuest,y.Live=true->∀z∈b.Guests.set (M.gone b.Guests).toNat y,z.Live=true\/z=M.noGuest:=λy hy z hz=>by
      rcases List.mem_or_eq_of_mem_set hz with hz|rfl
      · cases hl:z.Live with
        |true=>exact .inl rfl
        |false=>exact .inr (aKy (List.all_eq_true.1 kb.all z hz) hl)
      {exact .inl hy}
     have sg:∀y:DGuest,SmallG y->SmallH ⟨b.Words,b.Guests.set (M.gone b.Guests).toNat y⟩:=λy hy=>aCf hb hy;unfold jF;rw[aHx (sg _ ⟨⟨by decide⟩,by decide,by decide,by decide⟩) (gl _ rfl),oB,aAy ⟨sx.c,by show([]:List Int).length<=_;simp,sx.i,sx.o⟩,oB,aF ⟨by omega,by simp;omega⟩,aF ⟨by omega,by simp;omega⟩,aF ⟨by omega,by simp;omega⟩,oB,bAy,oB];have hlt:(M.gone b.Guests).toNat<b.Guests.length:=(by omega);simp only[aNf hlt,List.set_set];rfl
theorem bIr(hk:HOk b):iter (eF b) (-1,2)=some (.ret (.go (M.gone b.Guests))):=by
 have h3:=hk.three
 have st:∀(i:Nat) (c:Int),i<3->eF b (c,(i:Int))=some (.next (bif (b.Guests.getD i default).Live then c else(i:Int),(i:Int)-1)):=λi c hi=>by
  simp only[eF,iT];rw[dT (p:=(0:Int)<=(i:Int)) (by omega),cTq,aF ⟨by omega,by omega⟩];cases(b.Guests.getD i default).Live
  all_goals
   simp only[bT,bF,cTq,cFq,oB,JO.run,pZ];rw[aH (by omega) (by omega)]
 have sn:∀c:Int,eF b (c,-1)=some (.ret (.go c)):=λc=>by simp only[eF];rfl
 rw[show(2:Int)=((2:Nat):Int)from rfl,cR,st 2 _ (by omega)];simp only;rw[show((2:Nat):Int)-1=((1:Nat):Int)from rfl,cR,st 1 _ (by omega)];simp only;rw[show((1:Nat):Int)-1=((0:Nat):Int)from rfl,cR,st 0 _ (by omega)];simp only;rw[show((0:Nat):Int)-1=-1 from rfl,cR,sn];unfold M.gone;cases(b.Guests.getD 0 default).Live<;>cases(b.Guests.getD 1 default).Live<;>cases(b.Guests.getD 2 default).Live<;>rfl
theorem bKa{T:Type}{c:T}{k:Nat}:List.replicate k c++[c]=List.replicate (k+1) c:=by rw[List.replicate_succ']
theorem aTd{x:DGuest}(l:Live a g x):iter (fG g) (a.Guests,[],x.Pages,0)=some (.ret (.go (a.Guests.set g.toNat (M.mapG M.clean x),List.replicate 8 true,List.replicate 8 M.nowhere))):=by
 have h3:=l.ok.three;have:=l.lo;have:=l.hi;have hp:=l.pages
 have key:=fC (n:=8) (step:=fG g) (λk=>(a.Guests.set g.toNat (M.upG M.clean k x),List.replicate k true,up (λ_=>M.nowhere) k x.Pages,(k:Int))) (λ_=>true) (JO.go (a.Guests.set g.toNat (M.mapG M.clean x),List.replicate 8 true,List.replicate 8 M.nowhere)) (JO.go (a.Guests.set g.toNat (M.mapG M.clean x),List.replicate 8 true,List.replicate 8 M.nowhere)) (λk hk _=>by
  have hl:=xP (f:=M.clean) (k:=k) (xs:=x.Pages);have hl2:=xP (f:=λ_=>M.nowhere) (k:=k) (xs:=x.Pages);have hpl:(M.upG M.clean k x).Pages.length=8:=(by show(up M.clean k x.Pages).length=8;omega);have hs:=aDc (f:=M.clean) (k:=k) (xs:=x.Pages) (by omega);have hs2:=aDc (f:=λ_=>M.nowhere) (k:=k) (xs:=x.Pages) (by omega);have hq:=bGu (f:=M.clean) (k:=k) (xs:=x.Pages) (by omega);have e1:(a.Guests.set g.toNat (M.upG M.clean k x)).getD g.toNat default=M.upG M.clean k x:=vC (by omega);simp only[fG,iT,e1];rw[dT (p:=(k:Int)<8) (by omega),cTq,aF ⟨by omega,by rw[lS];omega⟩,aF ⟨by omega,by omega⟩,aF ⟨by omega,by omega⟩,aF ⟨by simp;omega,by simp;omega⟩,aH (by omega) (by omega),cTq,List.set_set,bKa];show some (LO.next (a.Guests.set g.toNat (⟨x.Live,x.C,(up M.clean k x.Pages).set k ⟨((up M.clean k x.Pages).getD k default).Frame,((up M.clean k x.Pages).getD k default).Write,false⟩,x.In,x.Out⟩:DGuest),List.replicate (k+1) true,(up (λ_=>M.nowhere) k x.Pages).set k M.nowhere,(k:Int)+1))=some (LO.next (a.Guests.set g.toNat (⟨x.Live,x.C,up M.clean (k+1) x.Pages,x.In,x.Out⟩:DGuest),List.replicate (k+1) true,up (λ_=>M.nowhere) (k+1) x.Pages,((k+1:Nat):Int)));rw[hq,<-hs,<-hs2];rfl) (λ_=>by
  simp only[fG];rw[bIe (by omega),aCn (by omega)];have:x.Pages.map (λ_=>M.nowhere)=List.replicate 8 M.nowhere:=(by rw[List.map_const',hp]);rw[this];rfl)
 rw[Bool.cond_self]at key;have e0:a.Guests.set g.toNat (M.upG M.clean 0 x)=a.Guests:=(by rw[bGj,<-l.at_];exact tC);have e1:up (λ_=>M.nowhere) 0 x.Pages=x.Pages:=xT;rw[e0,e1]at key;exact key
theorem aTq(ha:SmallH a)(hb:SmallH b):kN a b g=some (M.moveBegin a b g):=by unfold kN M.moveBegin;rw[bLa ha,oB];(cases ht:M.there a g with|false=>rfl|true=>have l:=cC ha ht;have l3:=l.ok.three;have:=l.lo;have:=l.hi;have lp:=l.pages;rw[bT,cFq,zF hb,oB,Bool.true_and];(cases ho:M.hostOk b with|false=>rfl|true=>have kb:=cM.1 ho;have b3:=kb.three;have hr:=zU b.Guests;rw[bT,cFq,bIr kb,Bool.true_and];simp only[oB,LO.val,JO.run,qM];by_cases e:M.gone b.Guests=-1;{rw[dT (p:=M.gone b.Guests<0) (by omega),dF (by simp[e])];rfl};{have gx:=aHu l.ok.all (i:=g.toNat) (by omega);rw[dF (p:=M.gone b.Guests<0) (by omega),dT e,cFq,cTq,aSj ha l.ok.all,oB,aSj hb kb.all,oB,aF ⟨by omega,by omega⟩];show Option.bind (fN (a.Guests.getD g.toNat default)) _=_;rw[aVz l.small gx,oB,aTd l];simp only[oB,LO.val,JO.run,qN];rw[aF ⟨by omega,by omega⟩];unfold M.arrival;rw[l.live];rfl}))
end
section
variable {m : DMove}
end
theorem aNg{m:DMove}(hs:SmallM m):lT m m=some true:=by
 have hl:=hs.l;unfold lT;rw[aAv hs.f,aAv hs.t];simp only[decide_true,bT,cFq,oB]
 have key:=fC (n:=m.Left.length) (step:=jH m m) (λi=>(i:Int)) (λ_=>true) (JO.go ()) (.out false) (λi hi _=>by
  simp only[jH,iT];rw[dT (p:=(i:Int)<_) (by omega),cTq,aF ⟨by omega,by omega⟩,aF ⟨by omega,by omega⟩,aH (by omega) (by omega)];simp only[beq_self_eq_true,bT,cFq,cTq];rfl) (λ_=>by
  simp only[jH];rw[dF (by omega),cFq])
 have e:(List.range m.Left.length).all (λ_=>true)=true:=(by simp);rw[e]at key;rw[show(0:Int)=((0:Nat):Int)from rfl,key];rfl
theorem aIt{xs:List Int}(hx:∀x∈xs,0<=x/\x<=255):Ex (hU xs) (λv=>SmallH v.1/\SmallH v.2.1):=by unfold hU;refine Ex.bind (bMa hx) λr R=>?_;refine Ex.bind (bCt R (by omega) (by omega)) λv1 ⟨R1,s1⟩=>?_;refine Ex.bind (bNg R1 (by omega) (by omega)) λv2 ⟨R2,s2⟩=>?_;exact Ex.bind (bNv R2 (by omega)) λv3 _=>Ex.ret ⟨s1,s2⟩
theorem aNi{xs:List Int}(hx:∀x∈xs,0<=x/\x<=255):Ex (gF xs) (λb=>b=true):=by
 have al:Ex (Option.bind mQ λv=>some v) (λb=>b=true):=Ex.bind (bHt (Q:=λb=>b=true) rfl) λb hb=>Ex.ret hb;unfold gF;refine Ex.cond (λ_=>Ex.ret rfl) λ_=>?_;refine Ex.bind (aIt hx) λv ⟨ha,hb⟩=>?_;obtain⟨a,b,g⟩:=v;have ha:SmallH a:=ha;have hb:SmallH b:=hb;have hz:=aTm (g:=g) ha hb;dsimp only;rw[aTf ha hb,oB,aTq ha hb,oB,beq_self_eq_true,bT,cFq,aNg hz,oB,bT,cFq];cases h2:(M.moveBegin a b g).2 with
 |false=>exact al
 |true=>
  have B:=aPa ha hb h2;obtain⟨x,y,k⟩:=B.ok;have h8:=k.len;have hl:=B.left;rw[bT,cFq]
  have key:=fC (n:=8) (step:=fU (M.moveBegin a b g)) (λp=>(p:Int)) (λ_=>true) (JO.go ()) (.out false) (λp hp _=>by
   have e:(M.moveBegin a b g).1.Left.getD p default=true:=(by rw[hl,aW (by rw[List.length_replicate];exact hp),List.getElem_replicate]);simp only[fU,iT,e];rw[dT (p:=(p:Int)<_) (by omega),cTq,aF ⟨by omega,by omega⟩,aH (by omega) (by omega)];rfl) (λ_=>by
   simp only[fU];rw[dF (by omega)];rfl)
  rw[show(List.range 8).all (λ_=>true)=true by simp,cTq]at key;rw[show(0:Int)=((0:Nat):Int)from rfl,key];simp only[oB,LO.val,JO.run,pK];rw[bDl hz,oB,k.ok,cTq,aJu ha hz.f (λj hj _=>B.here j hj),oB,cTq,aJu hb hz.t (λj hj hn=>B.there j hj hn)];exact Ex.ret rfl
theorem aNk{xs:List Int}(hx:∀x∈xs,0<=x/\x<=255):gF xs=some true:=by obtain⟨_,h,rfl⟩:=aNi hx;exact h
end Go.Proofs.Ytcgggihjcelmhaa
