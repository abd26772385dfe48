/- The plain functions: what they answer. -/
import Derived.Test.YtbanbjdcgdmkaaaPJV
import Derived.Test.YtbanbjdcgdmkaaaWGX1
import Derived.Test.YtbanbjdcgdmkaaaWGA1
import Derived.Test.YtbanbjdcgdmkaaaWFX1
namespace Go.Proofs.Ytbanbjdcgdmkaaa
set_option linter.all false
namespace M
def vw (ws:List Int) (x:DGuest):DBare:=⟨x.C,mem ws x.Pages,x.In,x.Out⟩
def busy (c:DCore):Bool:=c.Stopped || ((tick c).Waits && (tick c).On)
def wpc (b:DBare):Int:=walk b.Mem b.C.Root b.C.Pc b.C.User false
def inst (b:DBare):DIns:=ins (b.Mem.getD (wpc b).toNat default)
def adr (b:DBare):Int:=reg b.C ((inst b).N % 4) % 64
def isSt (b:DBare):Bool:=decide ((inst b).Op=4)
def wad (b:DBare):Int:=walk b.Mem b.C.Root (adr b) b.C.User (isSt b)
def reads (b:DBare):Bool:=!busy b.C && !decide (wpc b = -1)
def comes (b:DBare):Bool:=reads b && (decide ((inst b).Op=3) || isSt b) && !decide (wad b = -1)
def lackS (s:DSlot) (w:Bool):Bool:=decide (s.Frame = -1) || (w && !s.Write)
def one (b:Bool):Nat:=bif b then 1 else 0
def cnt (ps:List DSlot) (b:DBare):Nat:=one (reads b && lackS (ps.getD (wpc b / 8).toNat default) false)+one (comes b && lackS (ps.getD (wad b / 8).toNat default) (isSt b))
def e0:DExit:=⟨0,0,⟨0,0,0⟩⟩
def aExit (s:DShade) (why:Int):DExit:=bif decide (why=2) then ⟨2,s.Page,⟨0,0,0⟩⟩ else bif decide (why=3) then ⟨3,s.Page,⟨0,0,0⟩⟩ else e0
def shadeAt (ws:List Int) (x:DGuest) (a:Int):DShade:=shade ws x (a / 8).toNat
def placeAt (ws:List Int) (x:DGuest) (a:Int) (w:Bool):Int × Int:=place (shadeAt ws x a) a x.C.User w
def iExit (ws:List Int) (x:DGuest) (i:DIns):DExit :=
 bif kern i.Op && !x.C.User then ⟨1,0,i⟩
 else bif decide (i.Op=3) || decide (i.Op=4) then aExit (shadeAt ws x (reg x.C (i.N % 4) % 64)) (placeAt ws x (reg x.C (i.N % 4) % 64) (decide (i.Op=4))).2
 else e0
def xExit (ws:List Int) (x:DGuest):DExit :=
 bif busy x.C then e0
 else bif !decide ((placeAt ws x x.C.Pc false).2=0) then aExit (shadeAt ws x x.C.Pc) (placeAt ws x x.C.Pc false).2
 else iExit ws x (ins (ws.getD (placeAt ws x x.C.Pc false).1.toNat default))
noncomputable def guestExit (h:DHost) (g:Int):DExit:=bif there h g then xExit h.Words (h.Guests.getD g.toNat default) else e0
def lacks (e:DExit):Bool:=decide (e.Why=2) || decide (e.Why=3)
noncomputable def answered (h:DHost) (g:Int) (e:DExit):DHost × Bool:=bif decide (e.Why=2) then hostFill h g e.Page else hostCopy h g e.Page
noncomputable def ready (g:Int):Nat→DHost→Option DHost
 | 0,h=>some h
 | n+1,h=>bif lacks (guestExit h g) then (bif (answered h g (guestExit h g)).2 then ready g n (answered h g (guestExit h g)).1 else none) else some h
end M
section
variable (c : DCore)
theorem tick_pc:(M.tick c).Pc=c.Pc:=by unfold M.tick; cases decide (c.Timer=0) <;> rfl
theorem tick_user:(M.tick c).User=c.User:=by unfold M.tick; cases decide (c.Timer=0) <;> rfl
theorem tick_regs:(M.tick c).Regs=c.Regs:=by unfold M.tick; cases decide (c.Timer=0) <;> rfl
end
theorem inst_ok {b:DBare} (hb:BOk b):M.insOk (M.inst b)=true:=by
 have hm:0≤b.Mem.getD (M.wpc b).toNat default∧b.Mem.getD (M.wpc b).toNat default≤4095:=by
  by_cases h:M.wpc b = -1
  · rw [h]; exact mem_word hb (z:=0) (by omega) (by omega)
  · have hw:=walk_lt _ _ _ _ _ h
    exact mem_word hb hw.1 hw.2
 exact ins_ok hm.1 hm.2
section
variable {h : DHost} {g : Int} {x : DGuest}
theorem vw_ok (l:Live h g x):BOk (M.vw h.Words x):=bOk_iff.1 (view_ok l)
theorem walk_place (l:Live h g x) {a:Int} {w:Bool} (a0:0≤a) (a1:a≤63) :
 M.walk (M.mem h.Words x.Pages) x.C.Root a x.C.User w=(bif M.sLets (M.shadeAt h.Words x a) x.C.User w then (M.shadeAt h.Words x a).Page*8+a % 8 else -1):=by
 have hb:=vw_ok l
 have hr:=core_root l.core
 unfold M.walk
 rw [show M.memOk (M.mem h.Words x.Pages)=true from hb.mem,M.inR_iff.2 hr,M.inR_iff.2 ⟨a0,a1⟩]
 simp only [Bool.and_self,cond_true]
 by_cases e:x.C.Root = -1
 · rw [decide_eq_true e,cond_true]
   have es:M.shadeAt h.Words x a=M.shadeFor x ⟨true,true,true,(((a / 8).toNat:Nat):Int)⟩:=by unfold M.shadeAt M.shade M.entry; rw [if_pos e]
   rw [es]
   simp only [M.sLets,M.shadeFor,Bool.true_or,Bool.and_self,cond_true]
   omega
 · rw [decide_eq_false e,cond_false]
   have es:M.shadeAt h.Words x a=M.shadeFor x (dec ((M.mem h.Words x.Pages).getD (x.C.Root*8+a / 8).toNat default)):=by
    unfold M.shadeAt M.shade M.entry
    rw [if_neg e,mem_get (by omega),show (x.C.Root*8+a / 8).toNat=x.C.Root.toNat*8+(a / 8).toNat by omega]
   rw [es]; rfl
theorem place_walk (l:Live h g x) {a:Int} {w:Bool} (a0:0≤a) (a1:a≤63) {t:Int} (ht:M.walk (M.mem h.Words x.Pages) x.C.Root a x.C.User w=t) :
 (t = -1∧M.placeAt h.Words x a w=(-1,1)) ∨
 (0≤t∧t<64∧(M.shadeAt h.Words x a).Page=t / 8 ∧
  M.placeAt h.Words x a w=bif decide ((x.Pages.getD (t / 8).toNat default).Frame = -1) then (-1,2) else bif w && !(x.Pages.getD (t / 8).toNat default).Write then (-1,3) else ((x.Pages.getD (t / 8).toNat default).Frame*8+t % 8,0)):=by
 rw [walk_place l a0 a1] at ht
 have hp:=entry_page l (p:=(a / 8).toNat) (by omega)
 have e1:(M.shadeAt h.Words x a).Page=(M.entry h.Words x (a / 8).toNat).Page:=rfl
 unfold M.placeAt M.place
 cases hl:M.sLets (M.shadeAt h.Words x a) x.C.User w with
 | false=>rw [hl,cond_false] at ht; exact .inl ⟨ht.symm,rfl⟩
 | true =>
  rw [hl,cond_true] at ht
  have e2:(M.shadeAt h.Words x a).Page=t / 8:=by omega
  refine .inr ⟨by omega,by omega,e2,?_⟩
  have e3:(M.shadeAt h.Words x a).Frame=(x.Pages.getD (t / 8).toNat default).Frame:=by rw [← e2]; rfl
  have e4:(M.shadeAt h.Words x a).Ready=(x.Pages.getD (t / 8).toNat default).Write:=by rw [← e2]; rfl
  rw [e3,e4,show t % 8=a % 8 by omega]; rfl
theorem word_of (l:Live h g x) {t:Int} (t0:0≤t) (t1:t<64) (hf:(x.Pages.getD (t / 8).toNat default).Frame≠-1) :
 h.Words.getD ((x.Pages.getD (t / 8).toNat default).Frame*8+t % 8).toNat default=(M.mem h.Words x.Pages).getD t.toNat default:=by
 have hr:=live_slot l (p:=(t / 8).toNat) (by omega)
 rw [mem_get (by omega)]
 unfold M.word
 rw [show t.toNat / 8=(t / 8).toNat by omega,if_neg (by omega)]
 congr 1; omega
theorem kern_not {op:Int} (h:M.kern op=true):op≠3∧op≠4:=by
 constructor <;> rintro rfl <;> exact absurd h (by decide)
theorem busy_reads (b:DBare) (h:M.busy b.C=true):M.reads b=false∧M.comes b=false:=by
 unfold M.comes M.reads
 rw [h]; exact ⟨rfl,rfl⟩
theorem exit_cases (l:Live h g x) :
 ((M.xExit h.Words x).Why=2∧∃ t,0≤t∧t<64∧(M.xExit h.Words x).Page=t / 8∧(x.Pages.getD (t / 8).toNat default).Frame = -1∧((M.reads (M.vw h.Words x)=true∧t=M.wpc (M.vw h.Words x))∨(M.comes (M.vw h.Words x)=true∧t=M.wad (M.vw h.Words x)))) ∨
 ((M.xExit h.Words x).Why=3∧∃ t,0≤t∧t<64∧(M.xExit h.Words x).Page=t / 8∧(x.Pages.getD (t / 8).toNat default).Frame≠-1∧(x.Pages.getD (t / 8).toNat default).Write=false∧M.comes (M.vw h.Words x)=true∧t=M.wad (M.vw h.Words x)∧M.isSt (M.vw h.Words x)=true) ∨
 ((M.xExit h.Words x=M.e0∨(M.xExit h.Words x=⟨1,0,M.inst (M.vw h.Words x)⟩∧M.kern (M.inst (M.vw h.Words x)).Op=true∧x.C.User=false))∧M.cnt x.Pages (M.vw h.Words x)=0):=by
 have hb:=vw_ok l
 unfold M.xExit
 cases hbz:M.busy x.C with
 | true =>
  obtain ⟨h1,h2⟩:=busy_reads (M.vw h.Words x) hbz
  refine .inr (.inr ⟨.inl rfl,?_⟩)
  unfold M.cnt; rw [h1,h2]; rfl
 | false =>
  rw [cond_false]
  have hrd:M.reads (M.vw h.Words x)=!decide (M.wpc (M.vw h.Words x) = -1):=by unfold M.reads; rw [show M.busy (M.vw h.Words x).C=false from hbz]; rfl
  rcases place_walk l (a:=x.C.Pc) (w:=false) hb.pc.1 hb.pc.2 (t:=M.wpc (M.vw h.Words x)) rfl with ⟨ht,hp⟩ | ⟨t0,t1,hpg,hp⟩
  · have h1:M.reads (M.vw h.Words x)=false:=by rw [hrd,decide_eq_true (show M.wpc (M.vw h.Words x) = -1 from ht)]; rfl
    have h2:M.comes (M.vw h.Words x)=false:=by unfold M.comes; rw [h1]; rfl
    rw [hp]
    refine .inr (.inr ⟨.inl rfl,?_⟩)
    unfold M.cnt; rw [h1,h2]; rfl
  · have h1:M.reads (M.vw h.Words x)=true:=by rw [hrd,decide_eq_false (show ¬ M.wpc (M.vw h.Words x) = -1 by have:0≤M.wpc (M.vw h.Words x):=t0; omega)]; rfl
    by_cases hf:(x.Pages.getD (M.wpc (M.vw h.Words x) / 8).toNat default).Frame = -1
    · rw [decide_eq_true hf] at hp
      rw [hp]
      exact .inl ⟨rfl,M.wpc (M.vw h.Words x),t0,t1,hpg,hf,.inl ⟨h1,rfl⟩⟩
    · rw [decide_eq_false hf,cond_false,Bool.false_and,cond_false] at hp
      have hw:=word_of l t0 t1 hf
      rw [hp]
      simp only [decide_true,Bool.not_true,cond_false]
      rw [show M.ins (h.Words.getD ((x.Pages.getD (M.wpc (M.vw h.Words x) / 8).toNat default).Frame*8+M.wpc (M.vw h.Words x) % 8).toNat default)=M.inst (M.vw h.Words x) by rw [hw]; rfl]
      have hl1:M.lackS (x.Pages.getD (M.wpc (M.vw h.Words x) / 8).toNat default) false=false:=by unfold M.lackS; rw [decide_eq_false hf]; rfl
      generalize hi:M.inst (M.vw h.Words x)=i
      unfold M.iExit
      cases hk:M.kern i.Op with
      | true =>
       obtain ⟨n3,n4⟩:=kern_not hk
       have h2:M.comes (M.vw h.Words x)=false:=by unfold M.comes M.isSt; rw [hi,decide_eq_false n3,decide_eq_false n4]; simp
       have hc:M.cnt x.Pages (M.vw h.Words x)=0:=by unfold M.cnt; rw [h2,hl1]; simp [M.one]
       cases hu:x.C.User with
       | false=>exact .inr (.inr ⟨.inr ⟨rfl,rfl,rfl⟩,hc⟩)
       | true =>
        simp only [Bool.not_true,Bool.and_false,cond_false]
        rw [decide_eq_false n3,decide_eq_false n4]
        exact .inr (.inr ⟨.inl rfl,hc⟩)
      | false =>
       rw [Bool.false_and,cond_false]
       by_cases ho:i.Op=3∨i.Op=4
       · have eo:(decide (i.Op=3) || decide (i.Op=4))=true:=by simpa using ho
         have ead:M.reg x.C (i.N % 4) % 64=M.adr (M.vw h.Words x):=by unfold M.adr; rw [hi]; rfl
         have est:decide (i.Op=4)=M.isSt (M.vw h.Words x):=by unfold M.isSt; rw [hi]
         have hco:M.comes (M.vw h.Words x)=!decide (M.wad (M.vw h.Words x) = -1):=by unfold M.comes; rw [h1,← est,hi,eo]; rfl
         have har:0≤M.adr (M.vw h.Words x)∧M.adr (M.vw h.Words x)≤63:=by unfold M.adr; omega
         rw [eo,cond_true,ead,est]
         rcases place_walk l (a:=M.adr (M.vw h.Words x)) (w:=M.isSt (M.vw h.Words x)) har.1 har.2 (t:=M.wad (M.vw h.Words x)) rfl with ⟨ht,hp⟩ | ⟨t0,t1,hpg,hp⟩
         · have h2:M.comes (M.vw h.Words x)=false:=by rw [hco,decide_eq_true ht]; rfl
           rw [hp]
           refine .inr (.inr ⟨.inl rfl,?_⟩)
           unfold M.cnt; rw [h2,hl1]; simp [M.one]
         · have h2:M.comes (M.vw h.Words x)=true:=by rw [hco,decide_eq_false (by omega)]; rfl
           by_cases hf2:(x.Pages.getD (M.wad (M.vw h.Words x) / 8).toNat default).Frame = -1
           · rw [decide_eq_true hf2,cond_true] at hp
             rw [hp]
             exact .inl ⟨rfl,_,t0,t1,hpg,hf2,.inr ⟨h2,rfl⟩⟩
           · rw [decide_eq_false hf2,cond_false] at hp
             cases hw2:M.isSt (M.vw h.Words x) && !(x.Pages.getD (M.wad (M.vw h.Words x) / 8).toNat default).Write with
             | true =>
              rw [hw2,cond_true] at hp
              rw [hp]
              rw [Bool.and_eq_true,Bool.not_eq_true'] at hw2
              exact .inr (.inl ⟨rfl,_,t0,t1,hpg,hf2,hw2.2,h2,rfl,hw2.1⟩)
             | false =>
              rw [hw2,cond_false] at hp
              rw [hp]
              refine .inr (.inr ⟨.inl rfl,?_⟩)
              have hl2:M.lackS (x.Pages.getD (M.wad (M.vw h.Words x) / 8).toNat default) (M.isSt (M.vw h.Words x))=false:=by unfold M.lackS; rw [decide_eq_false hf2,hw2]; rfl
              unfold M.cnt; rw [hl1,hl2]; simp [M.one]
       · have eo:(decide (i.Op=3) || decide (i.Op=4))=false:=by
          rw [Bool.or_eq_false_iff,decide_eq_false_iff_not,decide_eq_false_iff_not]; exact not_or.1 ho
         have h2:M.comes (M.vw h.Words x)=false:=by unfold M.comes M.isSt; rw [hi,eo]; simp
         rw [eo,cond_false]
         refine .inr (.inr ⟨.inl rfl,?_⟩)
         unfold M.cnt; rw [h2,hl1]; simp [M.one]
end
end Go.Proofs.Ytbanbjdcgdmkaaa
namespace Go.Proofs.Ytbanbjdcgdmkaaa
set_option linter.all false
section
variable {h : DHost} {g : Int} {x : DGuest}
theorem guestShade_i (l:Live h g x) {a:Int} (a0:0≤a) (a1:a≤63):F_impl_guestShade h g a=some (M.shadeAt h.Words x a):=by
 unfold F_impl_guestShade M.shadeAt
 rw [Int.tdiv_eq_ediv_of_nonneg a0,w64_in (by omega) (by omega),show a / 8=(((a / 8).toNat:Nat):Int) by omega,shadeOf_i l (by omega),Int.toNat_natCast]; rfl
theorem guestWalk_i (l:Live h g x) {a:Int} {w:Bool} (a0:0≤a) (a1:a≤63):F_impl_guestWalk h g a w=some (M.placeAt h.Words x a w):=by
 have:=l.ok.three; have:=l.lo; have:=l.hi
 have hf:-1≤(M.shadeAt h.Words x a).Frame∧(M.shadeAt h.Words x a).Frame<20:=shade_frame l (p:=(a / 8).toNat) (by omega)
 unfold F_impl_guestWalk
 rw [guestShade_i l a0 a1,Option.bind_some,grd_t ⟨l.lo,by omega⟩,l.at_,shadeLeads_i a0 a1 hf.1 hf.2]; rfl
theorem addressExit_i (l:Live h g x) {a why:Int} (a0:0≤a) (a1:a≤63):F_impl_addressExit h g a why=some (M.aExit (M.shadeAt h.Words x a) why):=by
 unfold F_impl_addressExit M.aExit
 rw [guestShade_i l a0 a1,Option.bind_some]
 cases decide (why=2) <;> cases decide (why=3) <;> rfl
theorem adr_range {c:DCore} {n:Int}:0≤M.reg c n % 64∧M.reg c n % 64≤63:=by omega
theorem insExit_i (l:Live h g x) {i:DIns} (hi:M.insOk i=true):F_impl_insExit h g i=some (M.iExit h.Words x i):=by
 have:=l.ok.three; have:=l.lo; have:=l.hi
 have hb:=vw_ok l
 have hi2:=hi
 obtain ⟨op,a,n⟩:=i
 simp only [M.insOk,Bool.and_eq_true,M.inR_iff] at hi2
 have had:F_impl_addressOf x.C ⟨op,a,n⟩=some (M.reg x.C (n % 4) % 64):=addressOf_i (b:=M.vw h.Words x) hb.k hi2.2.1
 have rest:F_impl_insExit_j1 h g ⟨op,a,n⟩ ()=some (bif decide (op=3) || decide (op=4) then M.aExit (M.shadeAt h.Words x (M.reg x.C (n % 4) % 64)) (M.placeAt h.Words x (M.reg x.C (n % 4) % 64) (decide (op=4))).2 else M.e0):=by
  have more:F_impl_insExit_j2 h g ⟨op,a,n⟩ ()=some (M.aExit (M.shadeAt h.Words x (M.reg x.C (n % 4) % 64)) (M.placeAt h.Words x (M.reg x.C (n % 4) % 64) (decide (op=4))).2):=by
   unfold F_impl_insExit_j2
   simp only [l.at_]
   show Option.bind (F_impl_addressOf x.C ⟨op,a,n⟩) _=_
   rw [had,Option.bind_some,guestWalk_i l adr_range.1 adr_range.2,Option.bind_some,addressExit_i l adr_range.1 adr_range.2]; rfl
  unfold F_impl_insExit_j1
  by_cases h3:op=3
  · simp only [decide_eq_true h3,Bool.not_true,cond_false,Option.bind_some,JO.run,Bool.true_or,cond_true]; exact more
  · by_cases h4:op=4
    · simp only [decide_eq_false h3,decide_eq_true h4,Bool.not_true,Bool.not_false,cond_true,cond_false,Option.bind_some,JO.run,Bool.or_true]
      rw [decide_eq_true h4] at more; exact more
    · simp only [decide_eq_false h3,decide_eq_false h4,Bool.not_false,cond_true,Option.bind_some,JO.run,Bool.or_false,cond_false]; rfl
 unfold F_impl_insExit M.iExit
 rw [grd_t ⟨l.lo,by omega⟩,insKernel_i hi,Option.bind_some,l.at_]
 cases M.kern op with
 | false=>simp only [cond_false,Option.bind_some,JO.run,Bool.false_and]; exact rest
 | true =>
  cases x.C.User with
  | false=>rfl
  | true=>simp only [Bool.not_true,cond_true,cond_false,Option.bind_some,JO.run,Bool.and_false]; exact rest
theorem place_fine (l:Live h g x) {a:Int} {w:Bool} (a0:0≤a) (a1:a≤63) (h2:(M.placeAt h.Words x a w).2=0):0≤(M.placeAt h.Words x a w).1∧(M.placeAt h.Words x a w).1<160:=by
 rcases place_walk l (w:=w) a0 a1 rfl with ⟨_,hp⟩ | ⟨t0,t1,_,hp⟩
 · rw [hp] at h2; cases h2
 · have hr:=live_slot l (p:=(M.walk (M.mem h.Words x.Pages) x.C.Root a x.C.User w / 8).toNat) (by omega)
   rw [hp] at h2 ⊢
   generalize (x.Pages.getD (M.walk (M.mem h.Words x.Pages) x.C.Root a x.C.User w / 8).toNat default)=s at hr h2 ⊢
   by_cases e:s.Frame = -1
   · rw [decide_eq_true e] at h2; cases h2
   · rw [decide_eq_false e,cond_false] at h2 ⊢
     cases hw:w && !s.Write with
     | true=>rw [hw] at h2; cases h2
     | false=>rw [cond_false]; simp only; omega
theorem core_of (l:Live h g x):M.coreOk x.C=true∧(0≤x.C.Pc∧x.C.Pc≤63)∧(0≤x.C.Timer∧x.C.Timer≤4095):=⟨l.core,(vw_ok l).pc,(vw_ok l).timer⟩
theorem exitOf_i (l:Live h g x):F_impl_exitOf h g=some (M.xExit h.Words x):=by
 have:=l.ok.three; have:=l.lo; have:=l.hi; have hlw:=l.ok.len
 obtain ⟨_,hpc,htm⟩:=core_of l
 unfold F_impl_exitOf M.xExit M.busy
 rw [grd_t ⟨l.lo,by omega⟩,l.at_]
 show cond x.C.Stopped _ (Option.bind (F_impl_ticked x.C) _)=_
 cases x.C.Stopped with
 | true=>rfl
 | false =>
  rw [cond_false]
  rw [ticked_i htm.1 htm.2,Option.bind_some,isInterrupted_i,Option.bind_some]
  cases (M.tick x.C).Waits && (M.tick x.C).On with
  | true=>rfl
  | false =>
   simp only [Bool.or_false,cond_false]
   rw [guestWalk_i l hpc.1 hpc.2,Option.bind_some]
   by_cases h2:(M.placeAt h.Words x x.C.Pc false).2=0
   · have hpl:=place_fine l hpc.1 hpc.2 h2
     have hw:=wordsOk_get l.ok.words (i:=(M.placeAt h.Words x x.C.Pc false).1.toNat) (by omega)
     rw [decide_eq_true h2,Bool.not_true,cond_false,cond_false,grd_t ⟨hpl.1,by omega⟩,insFrom_i hw.1 hw.2,Option.bind_some,insExit_i l (ins_ok hw.1 hw.2)]; rfl
   · rw [decide_eq_false h2,Bool.not_false,cond_true,cond_true,addressExit_i l hpc.1 hpc.2]; rfl
theorem l6Exit_s {xs:List DShade} {s:DShade} {a why:Int} (a0:0≤a) (a1:a≤63) (hl:xs.length=8) (hg:xs.getD (a / 8).toNat default=s):F_spec_l6Exit xs a why=some (M.aExit s why):=by
 unfold F_spec_l6Exit M.aExit
 have e8:w64 (Int.tdiv a 8)=a / 8:=by rw [Int.tdiv_eq_ediv_of_nonneg a0,w64_in (by omega) (by omega)]
 rw [e8,grd_t ⟨by omega,by omega⟩]
 unfold F_spec_l6Exit_j1
 rw [e8,hg]
 cases decide (why=2) <;> cases decide (why=3) <;> rfl
end
theorem guestExit_i {h:DHost} {g:Int} (hs:SmallH h):F_impl_GuestExit h g=some (M.guestExit h g):=by
 unfold F_impl_GuestExit M.guestExit
 rw [hasGuest_i hs,Option.bind_some]
 cases ht:M.there h g with
 | false=>rfl
 | true =>
  have l:=there_live hs ht
  rw [Bool.not_true,cond_false,exitOf_i l]; rfl
theorem guestExit_s {h:DHost} {g:Int} (hs:SmallH h):F_spec_GuestExit h g=some (M.guestExit h g):=by
 unfold F_spec_GuestExit M.guestExit
 rw [live_s hs,Option.bind_some]
 cases ht:M.there h g with
 | false=>rfl
 | true =>
  have l:=there_live hs ht
  have hso:=shadowOf_s (g:=g) hs
  unfold M.shadowOf at hso
  rw [ht,cond_true] at hso
  generalize hx:h.Guests.getD g.toNat default=x at l hso
  have:=l.ok.three; have:=l.lo; have:=l.hi; have hlw:=l.ok.len
  obtain ⟨_,hpc,htm⟩:=core_of l
  have hb:=vw_ok l
  unfold M.xExit M.busy
  rw [Bool.not_true,cond_false,grd_t ⟨l.lo,by omega⟩,cond_true,grd_t ⟨l.lo,by omega⟩]
  show cond x.C.Stopped _ (Option.bind (F_spec_l3Core x.C) _)=_
  cases x.C.Stopped with
  | true=>rfl
  | false =>
   rw [cond_false]
   rw [core_s l.small.c,Option.bind_some,ticked_s htm.1 htm.2,Option.bind_some]
   cases (M.tick x.C).Waits && (M.tick x.C).On with
   | true=>rfl
   | false =>
    simp only [Bool.or_false,cond_false,tick_pc,tick_user,tick_regs]
    have pl:∀ {a:Int} {w:Bool},0≤a→a≤63→F_spec_l5Place (M.shadow h.Words x) a x.C.User w=some (M.placeAt h.Words x a w):=fun {a w} a0 a1=>by
     have hf:=shade_frame l (p:=(a / 8).toNat) (by omega)
     exact l5Place_s a0 a1 shadow_len (shadow_get (by omega)) hf.1 hf.2
    have ex:∀ {a why:Int},0≤a→a≤63→F_spec_l6Exit (M.shadow h.Words x) a why=some (M.aExit (M.shadeAt h.Words x a) why):=fun a0 a1=>l6Exit_s a0 a1 shadow_len (shadow_get (by omega))
    rw [hso,Option.bind_some,pl hpc.1 hpc.2,Option.bind_some]
    by_cases h2:(M.placeAt h.Words x x.C.Pc false).2=0
    · have hpl:=place_fine l hpc.1 hpc.2 h2
      have hw:=wordsOk_get l.ok.words (i:=(M.placeAt h.Words x x.C.Pc false).1.toNat) (by omega)
      have hi:=ins_ok hw.1 hw.2
      rw [decide_eq_true h2,Bool.not_true,cond_false,cond_false,grd_t ⟨hpl.1,by omega⟩,insFrom_s hw.1 hw.2,Option.bind_some,insKernel_s hi,Option.bind_some]
      generalize M.ins (h.Words.getD (M.placeAt h.Words x x.C.Pc false).1.toNat default)=i at hi
      simp only [M.insOk,Bool.and_eq_true,M.inR_iff] at hi
      have t4:Int.tmod i.N 4=i.N % 4:=tmod4 hi.2.1
      have hr:=hb.reg (k:=i.N % 4) (by omega) (by omega)
      have ha:Int.tmod (x.C.Regs.getD (i.N % 4).toNat default) 64=M.reg x.C (i.N % 4) % 64:=Int.tmod_eq_emod_of_nonneg hr.1
      have rg:0≤i.N % 4∧i.N % 4<((x.C.Regs.length:Nat):Int):=hb.k.gA (a:=i.N % 4) (by omega) (by omega)
      have a0:0≤M.reg x.C (i.N % 4) % 64:=by omega
      have a1:M.reg x.C (i.N % 4) % 64≤63:=by omega
      simp only [t4,ha]
      unfold M.iExit
      rw [grd_t rg,pl a0 a1,Option.bind_some,ex a0 a1,Option.bind_some]
      cases M.kern i.Op <;> cases x.C.User <;> cases decide (i.Op=3) <;> cases decide (i.Op=4) <;> rfl
    · rw [decide_eq_false h2,Bool.not_false,cond_true,cond_true,ex hpc.1 hpc.2]; rfl
end Go.Proofs.Ytbanbjdcgdmkaaa
namespace Go.Proofs.Ytbanbjdcgdmkaaa
set_option linter.all false
theorem copy_cases {h:DHost} {g p:Int} (hs:SmallH h) (h2:(M.hostCopy h g p).2=true):∃ x f,Live h g x∧0≤p∧p≤7∧0≤f∧f<20∧M.hostCopy h g p=(M.inFrame h g p f,true) ∧
 (((x.Pages.getD p.toNat default).Frame=f∧M.many (M.slots h.Guests) f=1)∨M.many (M.slots h.Guests) f=0):=by
 unfold M.hostCopy at h2 ⊢
 cases ht:M.there h g with
 | false=>rw [ht] at h2; cases h2
 | true =>
  have l:=there_live hs ht
  cases hp:M.inR 0 7 p with
  | false=>rw [ht,hp] at h2; cases h2
  | true =>
   obtain ⟨p0,p1⟩:=M.inR_iff.1 hp
   have hsl:=live_slot l (p:=p.toNat) (by omega)
   rw [ht,hp,Bool.and_self,cond_true] at h2
   rw [Bool.and_self,cond_true]
   by_cases e:((h.Guests.getD g.toNat default).Pages.getD p.toNat default).Frame = -1
   · rw [decide_eq_true e] at h2; cases h2
   · rw [decide_eq_false e,cond_false] at h2 ⊢
     by_cases q:M.many (M.slots h.Guests) ((h.Guests.getD g.toNat default).Pages.getD p.toNat default).Frame=1
     · refine ⟨_,_,l,p0,p1,by omega,hsl.2,by rw [decide_eq_true q,cond_true],.inl ⟨rfl,q⟩⟩
     · rw [decide_eq_false q,cond_false] at h2 ⊢
       obtain ⟨f,f0,f1,hm,e2⟩:=free_frame l p0 p1 h2
       exact ⟨_,f,l,p0,p1,f0,f1,e2,.inr hm⟩
def one (f:Int) (t:DSlot):Int:=if t.Frame=f then 1 else 0
end Go.Proofs.Ytbanbjdcgdmkaaa
namespace Go.Proofs.Ytbanbjdcgdmkaaa
set_option linter.all false
section
variable {h : DHost} {g : Int} {x : DGuest}
theorem live_there (l:Live h g x):M.there h g=true:=there_iff.2 ⟨l.ok,l.lo,l.hi,by rw [l.at_]; exact l.live⟩
theorem guest_exit (l:Live h g x):M.guestExit h g=M.xExit h.Words x:=by unfold M.guestExit; rw [live_there l,cond_true,l.at_]
theorem frame_live (hs:SmallH h) (l:Live h g x) {p f:Int} (p0:0≤p) (p1:p≤7) (f0:0≤f) (f1:f<20) (hok:HOk (M.inFrame h g p f)):Live (M.inFrame h g p f) g (putG x p.toNat f):=by
 have g0:=l.lo; have g1:=l.hi
 have hg:=(frame_page (f:=f) l p0 p1).1
 have:=there_live (small_frame (p:=p) (f:=f) hs l f0 f1) (there_iff.2 ⟨hok,g0,g1,by rw [hg]; exact l.live⟩)
 rwa [hg] at this
theorem lack_put (l:Live h g x) {p q:Nat} {f:Int} (hp:p<8) (f0:0≤f) {w:Bool}:M.lackS ((putG x p f).Pages.getD q default) w=if q=p then false else M.lackS (x.Pages.getD q default) w:=by
 have hpl:=l.pages
 show M.lackS ((x.Pages.set p _).getD q default) w=_
 by_cases e:q=p
 · subst e
   rw [if_pos rfl,getD_lt (by rw [List.length_set]; omega),List.getElem_set_self]
   unfold M.lackS
   simp only [Bool.not_true,Bool.and_false,Bool.or_false]
   exact decide_eq_false (by omega)
 · rw [if_neg e]
   congr 1
   simp only [List.getD_eq_getElem?_getD,List.getElem?_set]
   rw [if_neg (by omega)]
theorem one_le {a b:Bool} (h:a=true→b=true):M.one a≤M.one b:=by
 cases a
 · exact Nat.zero_le _
 · rw [h rfl]; exact Nat.le_refl _
theorem cnt_put (l:Live h g x) {p:Nat} {f:Int} (hp:p<8) (f0:0≤f) {b:DBare}
 (hl:(M.reads b=true∧(M.wpc b / 8).toNat=p∧M.lackS (x.Pages.getD p default) false=true)∨(M.comes b=true∧(M.wad b / 8).toNat=p∧M.lackS (x.Pages.getD p default) (M.isSt b)=true)) :
 M.cnt (putG x p f).Pages b<M.cnt x.Pages b:=by
 unfold M.cnt
 rw [lack_put l hp f0,lack_put l hp f0]
 have h1:M.one (M.reads b && if (M.wpc b / 8).toNat=p then false else M.lackS (x.Pages.getD (M.wpc b / 8).toNat default) false)≤M.one (M.reads b && M.lackS (x.Pages.getD (M.wpc b / 8).toNat default) false):=one_le fun h=>by
  split at h
  · simp at h
  · exact h
 have h2:M.one (M.comes b && if (M.wad b / 8).toNat=p then false else M.lackS (x.Pages.getD (M.wad b / 8).toNat default) (M.isSt b))≤M.one (M.comes b && M.lackS (x.Pages.getD (M.wad b / 8).toNat default) (M.isSt b)):=one_le fun h=>by
  split at h
  · simp at h
  · exact h
 rcases hl with ⟨a1,a2,a3⟩ | ⟨a1,a2,a3⟩
 · have e1:M.one (M.reads b && M.lackS (x.Pages.getD (M.wpc b / 8).toNat default) false)=1:=by rw [a1,a2,a3]; rfl
   have e2:M.one (M.reads b && if (M.wpc b / 8).toNat=p then false else M.lackS (x.Pages.getD (M.wpc b / 8).toNat default) false)=0:=by rw [if_pos a2,Bool.and_false]; rfl
   omega
 · have e1:M.one (M.comes b && M.lackS (x.Pages.getD (M.wad b / 8).toNat default) (M.isSt b))=1:=by rw [a1,a2,a3]; rfl
   have e2:M.one (M.comes b && if (M.wad b / 8).toNat=p then false else M.lackS (x.Pages.getD (M.wad b / 8).toNat default) (M.isSt b))=0:=by rw [if_pos a2,Bool.and_false]; rfl
   omega
theorem answer_step (hs:SmallH h) (l:Live h g x) (hk:M.lacks (M.xExit h.Words x)=true) (ha:(M.answered h g (M.xExit h.Words x)).2=true) :
 ∃ f,0≤(M.xExit h.Words x).Page∧(M.xExit h.Words x).Page≤7∧0≤f∧f<20∧M.answered h g (M.xExit h.Words x)=(M.inFrame h g (M.xExit h.Words x).Page f,true) ∧
  HOk (M.inFrame h g (M.xExit h.Words x).Page f) ∧
  (((x.Pages.getD (M.xExit h.Words x).Page.toNat default).Frame=f∧M.many (M.slots h.Guests) f=1)∨M.many (M.slots h.Guests) f=0) ∧
  M.cnt (putG x (M.xExit h.Words x).Page.toNat f).Pages (M.vw h.Words x)<M.cnt x.Pages (M.vw h.Words x):=by
 rcases exit_cases l with ⟨hw,t,t0,t1,hpg,hf,hc⟩ | ⟨hw,t,t0,t1,hpg,hf,hwr,hc,ht,hst⟩ | ⟨hc,_⟩
 · have ea:M.answered h g (M.xExit h.Words x)=M.hostFill h g (M.xExit h.Words x).Page:=by unfold M.answered; rw [hw]; rfl
   rw [ea] at ha ⊢
   obtain ⟨x',l',p0,p1,hcs⟩:=fill_cases hs ha
   have ex:x'=x:=l'.at_.symm.trans l.at_
   subst ex
   rcases hcs with ⟨_,hne⟩ | ⟨f,f0,f1,hm,e⟩
   · rw [hpg] at hne; exact absurd hf hne
   · refine ⟨f,p0,p1,f0,f1,e,frame_ok l p0 p1 f0 f1 (by rw [hm,if_neg (free_other l (by omega) hm)]),.inr hm,cnt_put l (by omega) f0 ?_⟩
     have hlk:∀ w,M.lackS (x'.Pages.getD (M.xExit h.Words x').Page.toNat default) w=true:=fun w=>by unfold M.lackS; rw [hpg,decide_eq_true hf]; rfl
     rcases hc with ⟨h1,h2⟩ | ⟨h1,h2⟩
     · exact .inl ⟨h1,by rw [hpg,h2],hlk _⟩
     · exact .inr ⟨h1,by rw [hpg,h2],hlk _⟩
 · have ea:M.answered h g (M.xExit h.Words x)=M.hostCopy h g (M.xExit h.Words x).Page:=by unfold M.answered; rw [hw]; rfl
   rw [ea] at ha ⊢
   obtain ⟨x',f,l',p0,p1,f0,f1,e,hcs⟩:=copy_cases hs ha
   have ex:x'=x:=l'.at_.symm.trans l.at_
   subst ex
   have hmf:M.many (M.slots h.Guests) f=if (x'.Pages.getD (M.xExit h.Words x').Page.toNat default).Frame=f then 1 else 0:=by
    rcases hcs with ⟨q,hm⟩ | hm
    · rw [if_pos q,hm]
    · rw [if_neg (free_other l (by omega) hm),hm]
   refine ⟨f,p0,p1,f0,f1,e,frame_ok l p0 p1 f0 f1 hmf,hcs,cnt_put l (by omega) f0 (.inr ⟨hc,by rw [hpg,ht],?_⟩)⟩
   unfold M.lackS; rw [hpg,hst,hwr]; simp
 · rcases hc with hc | ⟨hc,_⟩ <;> rw [hc] at hk <;> cases hk
end
structure Rdy (h : DHost) (g : Int) (x : DGuest) (h' : DHost) (x' : DGuest) : Prop where
 small:SmallH h'
 live:Live h' g x'
 views:∀ k:Nat,k<3→M.hostView h' (k:Int)=M.hostView h (k:Int)
 same:M.vw h'.Words x'=M.vw h.Words x
 none:M.cnt x'.Pages (M.vw h'.Words x')=0
 dirt:∀ p:Nat,(x'.Pages.getD p default).Dirty=(x.Pages.getD p default).Dirty
end Go.Proofs.Ytbanbjdcgdmkaaa
namespace Go.Proofs.Ytbanbjdcgdmkaaa
set_option linter.all false
theorem drawExit_d {xs:List Int} (hx:∀ x ∈ xs,0≤x∧x≤255):Ex (F_spec_DrawGuestExit xs) (fun v=>SmallH v.1):=by
 unfold F_spec_DrawGuestExit
 refine Ex.bind (open_d hx) fun r R=>?_
 refine Ex.bind (full_d R (by omega) (by omega)) fun v ⟨R2,hs⟩=>?_
 refine Ex.bind (at_d R2 (by omega)) fun v3 ⟨R3,e1,e2,_,_⟩=>?_
 rw [e1,e2]
 exact Ex.grd rfl (Ex.grd rfl (Ex.ret hs))
theorem exits_not {a b:DExit} (h:¬ (a.Why=b.Why∧a.Page=b.Page)):(!(decide (a.Why=b.Why) && (decide (a.Page=b.Page) && (decide (a.What.Op=b.What.Op) && (decide (a.What.A=b.What.A) && decide (a.What.N=b.What.N))))))=true:=by
 rw [Bool.not_eq_true',Bool.eq_false_iff]
 intro e
 simp only [Bool.and_eq_true,decide_eq_true_eq] at e
 exact h ⟨e.1,e.2.1⟩
theorem fnGuestExit_e {xs:List Int} (hx:∀ x ∈ xs,0≤x∧x≤255):Ex (F_laws_FnGuestExit xs) (fun b=>b=true):=by
 have al:Ex (Option.bind F_laws_alive fun v=>some v) (fun b=>b=true):=Ex.bind (alive_d (Q:=fun b=>b=true) rfl) fun b hb=>Ex.ret hb
 unfold F_laws_FnGuestExit
 refine Ex.cond (fun _=>Ex.ret rfl) fun _=>?_
 refine Ex.bind (drawExit_d hx) fun v hs=>?_
 obtain ⟨h,g⟩:=v
 have hs:SmallH h:=hs
 simp only [guestExit_i hs,guestExit_s hs,Option.bind_some,decide_true,Bool.and_true,Bool.not_true,cond_false]
 cases ht:M.there h g with
 | false =>
  have e:M.guestExit h g=M.e0:=by unfold M.guestExit; rw [ht]; rfl
  rw [e]; exact al
 | true =>
  have l:=there_live hs ht
  generalize hxx:h.Guests.getD g.toNat default=x at l
  have h3:=l.ok.three; have g0:=l.lo; have g1:=l.hi; have hpl:=l.pages
  rw [guest_exit l]
  have again:∀ {f:Int},M.lacks (M.xExit h.Words x)=true→0≤(M.xExit h.Words x).Page→(M.xExit h.Words x).Page≤7→0≤f→f<20→HOk (M.inFrame h g (M.xExit h.Words x).Page f) →
   ¬ ((M.guestExit (M.inFrame h g (M.xExit h.Words x).Page f) g).Why=(M.xExit h.Words x).Why∧(M.guestExit (M.inFrame h g (M.xExit h.Words x).Page f) g).Page=(M.xExit h.Words x).Page):=by
   intro f hk p0 p1 f0 f1 hok ⟨q1,q2⟩
   have l2:=frame_live hs l p0 p1 f0 f1 hok
   rw [guest_exit l2] at q1 q2
   have hpg:=(frame_page (f:=f) l p0 p1).2.2
   rcases exit_cases l2 with ⟨hw,t,t0,t1,he,hf,_⟩ | ⟨hw,t,t0,t1,he,hf,hwr,_⟩ | ⟨hc,_⟩
   · rw [← he,q2,hpg] at hf; simp only at hf; omega
   · rw [← he,q2,hpg] at hwr; cases hwr
   · have:M.lacks (M.xExit (M.inFrame h g (M.xExit h.Words x).Page f).Words (putG x (M.xExit h.Words x).Page.toNat f))=true:=by unfold M.lacks at hk ⊢; rw [q1]; exact hk
     rcases hc with hc | ⟨hc,_⟩ <;> rw [hc] at this <;> cases this
  have ans:M.lacks (M.xExit h.Words x)=true→(M.answered h g (M.xExit h.Words x)).2=true→SmallH (M.answered h g (M.xExit h.Words x)).1∧¬ ((M.guestExit (M.answered h g (M.xExit h.Words x)).1 g).Why=(M.xExit h.Words x).Why∧(M.guestExit (M.answered h g (M.xExit h.Words x)).1 g).Page=(M.xExit h.Words x).Page):=fun hk ha=>by
   obtain ⟨f,p0,p1,f0,f1,e,hok,_,_⟩:=answer_step hs l hk ha
   rw [e]
   exact ⟨small_frame hs l f0 f1,again hk p0 p1 f0 f1 hok⟩
  rcases exit_cases l with ⟨hw,t,t0,t1,he,hf,_⟩ | ⟨hw,t,t0,t1,he,hf,hwr,_⟩ | ⟨hc,_⟩
  · have hk:M.lacks (M.xExit h.Words x)=true:=by unfold M.lacks; rw [hw]; rfl
    have ea:M.answered h g (M.xExit h.Words x)=M.hostFill h g (M.xExit h.Words x).Page:=by unfold M.answered; rw [hw]; rfl
    rw [decide_eq_true hw,cond_true,hostFill_i hs,Option.bind_some,grd_t ⟨g0,by omega⟩,grd_t ⟨by omega,by omega⟩,he,decide_eq_true hf,cond_true,← he,← ea]
    cases ha:(M.answered h g (M.xExit h.Words x)).2 with
    | false=>exact Ex.ret rfl
    | true =>
     obtain ⟨hz,hn⟩:=ans hk ha
     rw [Bool.not_true,cond_false,guestExit_i hz,Option.bind_some]
     exact Ex.ret (exits_not hn)
  · have hk:M.lacks (M.xExit h.Words x)=true:=by unfold M.lacks; rw [hw]; rfl
    have ea:M.answered h g (M.xExit h.Words x)=M.hostCopy h g (M.xExit h.Words x).Page:=by unfold M.answered; rw [hw]; rfl
    have hsl:=live_slot l (p:=(t / 8).toNat) (by omega)
    rw [decide_eq_false (by omega),cond_false,decide_eq_true hw,cond_true,grd_t ⟨g0,by omega⟩,grd_t ⟨by omega,by omega⟩,hostCopy_i hs,Option.bind_some,he,decide_eq_true (by omega),cond_true,hwr,Bool.not_false,cond_true,← he,← ea]
    cases ha:(M.answered h g (M.xExit h.Words x)).2 with
    | false=>exact Ex.ret rfl
    | true =>
     obtain ⟨hz,hn⟩:=ans hk ha
     rw [Bool.not_true,cond_false,guestExit_i hz,Option.bind_some]
     exact Ex.ret (exits_not hn)
  · rcases hc with hc | ⟨hc,hkk,hu⟩
    · rw [hc]; exact al
    · rw [hc]
      simp only [Int.reduceEq,decide_false,decide_true,cond_true,cond_false]
      have hb:=vw_ok l
      rw [insKernel_ai,Option.bind_some]
      have hik:M.insKernel (M.inst (M.vw h.Words x))=true:=by
       unfold M.insKernel
       rw [hkk,Bool.and_true]
       exact inst_ok hb
      rw [hik,cond_true,grd_t ⟨g0,by omega⟩,hu]
      exact al
theorem fnGuestExit_t {xs:List Int} (hx:∀ x ∈ xs,0≤x∧x≤255):F_laws_FnGuestExit xs=some true:=by
 obtain ⟨_,h,rfl⟩:=fnGuestExit_e hx; exact h
end Go.Proofs.Ytbanbjdcgdmkaaa
