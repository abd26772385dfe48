/- The types of the plain functions. Made by program. -/
import Derived.Test.YtobbmlnagjhofaaZY
import Derived.Test.YtobbmlnagjhofaaProg
namespace Go.Proofs.Ytobbmlnagjhofaa
open Go.RowKit
set_option maxRecDepth 100000
set_option linter.all false
set_option maxHeartbeats 0
noncomputable def rg:=bJt Try.prog
abbrev LW(k:Nat)(L:LFun):Prop:=jF Try.prog k=some L
structure DCore where
 Regs:List Int
 Pc:Int
 Root:Int
 Vector:Int
 Saved:Int
 SavedUser:Bool
 Cause:Int
 Bad:Int
 Timer:Int
 Waits:Bool
 User:Bool
 On:Bool
 Stopped:Bool
deriving Inhabited
structure DSlot where
 Frame:Int
 Write:Bool
 Dirty:Bool
deriving Inhabited
structure DGuest where
 Live:Bool
 C:DCore
 Pages:List DSlot
 In:List Int
 Out:List Int
deriving Inhabited
structure DHost where
 Words:List Int
 Guests:List DGuest
deriving Inhabited
structure DBare where
 C:DCore
 Mem:List Int
 In:List Int
 Out:List Int
deriving Inhabited
structure Dl20Rd where
 b:List Int
 p:Int
deriving Inhabited
structure DEntry where
 There:Bool
 Write:Bool
 User:Bool
 Page:Int
deriving Inhabited
structure DIns where
 Op:Int
 A:Int
 N:Int
deriving Inhabited
def dV(x:DBare):List AV:=[bo (eI .i64) x.C.Regs,.int .i64 x.C.Pc,.int .i64 x.C.Root,.int .i64 x.C.Vector,.int .i64 x.C.Saved,.bool x.C.SavedUser,.int .i64 x.C.Cause,.int .i64 x.C.Bad,.int .i64 x.C.Timer,.bool x.C.Waits,.bool x.C.User,.bool x.C.On,.bool x.C.Stopped,bo (eI .i64) x.Mem,bo (eI .i64) x.In,bo (eI .i64) x.Out]
theorem aVa:∀x,noOwn (dV x)=true:=λ_=>rfl
theorem lP:∀x,bG (dV x)=true:=λx=>by simp only[dV,bG,AV.clean,Bool.and_self,aX aI]
theorem aEa:∀x,aJ (dV x)=true:=λx=>by simp only[dV,aJ,AV.noRef,Bool.and_self,aC aN]
def uB(x:DCore):List AV:=[bo (eI .i64) x.Regs,.int .i64 x.Pc,.int .i64 x.Root,.int .i64 x.Vector,.int .i64 x.Saved,.bool x.SavedUser,.int .i64 x.Cause,.int .i64 x.Bad,.int .i64 x.Timer,.bool x.Waits,.bool x.User,.bool x.On,.bool x.Stopped]
theorem aTu:∀x,noOwn (uB x)=true:=λ_=>rfl
theorem aKp:∀x,bG (uB x)=true:=λx=>by simp only[uB,bG,AV.clean,Bool.and_self,aX aI]
theorem aEd:∀x,aJ (uB x)=true:=λx=>by simp only[uB,aJ,AV.noRef,Bool.and_self,aC aN]
def eR(x:DSlot):List AV:=[.int .i64 x.Frame,.bool x.Write,.bool x.Dirty]
theorem lC:∀x,(eR x).length=3:=λ_=>rfl
theorem yL:∀x,noOwn (eR x)=true:=λ_=>rfl
theorem vJ:∀x,bG (eR x)=true:=λ_=>rfl
theorem eT:∀x,aJ (eR x)=true:=λ_=>rfl
theorem aKt:∀x,bB (eR x)=true:=λ_=>rfl
def cH(x:DGuest):List AV:=[.bool x.Live,bo (eI .i64) x.C.Regs,.int .i64 x.C.Pc,.int .i64 x.C.Root,.int .i64 x.C.Vector,.int .i64 x.C.Saved,.bool x.C.SavedUser,.int .i64 x.C.Cause,.int .i64 x.C.Bad,.int .i64 x.C.Timer,.bool x.C.Waits,.bool x.C.User,.bool x.C.On,.bool x.C.Stopped,bo eR x.Pages,bo (eI .i64) x.In,bo (eI .i64) x.Out]
theorem aTx:∀x,noOwn (cH x)=true:=λ_=>rfl
theorem aDz:∀x,bG (cH x)=true:=λx=>by simp only[cH,bG,AV.clean,Bool.and_self,aX aI,aX vJ]
theorem yS:∀x,aJ (cH x)=true:=λx=>by simp only[cH,aJ,AV.noRef,Bool.and_self,aC aN,aC eT]
def mE(x:DHost):List AV:=[bo (eI .i64) x.Words,bo cH x.Guests]
theorem aUt:∀x,noOwn (mE x)=true:=λ_=>rfl
theorem aEt:∀x,bG (mE x)=true:=λx=>by simp only[mE,bG,AV.clean,Bool.and_self,aX aI,aX aDz]
theorem aEb:∀x,aJ (mE x)=true:=λx=>by simp only[mE,aJ,AV.noRef,Bool.and_self,aC aN,aC yS]
def qB(x:DSlot):List AV:=[.int .i64 x.Frame,.bool x.Write,.bool x.Dirty]
theorem aLo:∀x,(qB x).length=3:=λ_=>rfl
theorem aAp:∀x,noOwn (qB x)=true:=λ_=>rfl
theorem wI:∀x,bG (qB x)=true:=λ_=>rfl
theorem sY:∀x,aJ (qB x)=true:=λ_=>rfl
theorem aGd:∀x,bB (qB x)=true:=λ_=>rfl
def cB(x:DGuest):List AV:=[.bool x.Live,bo (eI .i64) x.C.Regs,.int .i64 x.C.Pc,.int .i64 x.C.Root,.int .i64 x.C.Vector,.int .i64 x.C.Saved,.bool x.C.SavedUser,.int .i64 x.C.Cause,.int .i64 x.C.Bad,.int .i64 x.C.Timer,.bool x.C.Waits,.bool x.C.User,.bool x.C.On,.bool x.C.Stopped,bo qB x.Pages,bo (eI .i64) x.In,bo (eI .i64) x.Out]
theorem aQc:∀x,noOwn (cB x)=true:=λ_=>rfl
theorem qP:∀x,bG (cB x)=true:=λx=>by simp only[cB,bG,AV.clean,Bool.and_self,aX aI,aX wI]
theorem vZ:∀x,aJ (cB x)=true:=λx=>by simp only[cB,aJ,AV.noRef,Bool.and_self,aC aN,aC sY]
def bY(x:DGuest):List AV:=[.bool x.Live,.own 3 1 (List.length x.C.Regs) (fl (eI .i64) x.C.Regs),.int .i64 x.C.Pc,.int .i64 x.C.Root,.int .i64 x.C.Vector,.int .i64 x.C.Saved,.bool x.C.SavedUser,.int .i64 x.C.Cause,.int .i64 x.C.Bad,.int .i64 x.C.Timer,.bool x.C.Waits,.bool x.C.User,.bool x.C.On,.bool x.C.Stopped,.own 83 3 (List.length x.Pages) (fl eR x.Pages),.own 3 1 (List.length x.In) (fl (eI .i64) x.In),.own 3 1 (List.length x.Out) (fl (eI .i64) x.Out)]
theorem aK:∀x,(bY x).length=17:=λ_=>rfl
theorem dE:∀x,aJ (bY x)=true:=λx=>by simp only[bY,aJ,AV.noRef,Bool.and_self,aC aN,aC eT]
theorem aTy:∀x,bB (bY x)=true:=λx=>by simp only[bY,bB,AV.noBor,Bool.and_self,cE xF,cE aKt]
theorem cA:kV bY cH:=λx H r π j h=>(aA (aB rfl) (aA (aG (e:=3) rfl aF aM aI (h 1 _ rfl)) (aA (aB rfl) (aA (aB rfl) (aA (aB rfl) (aA (aB rfl) (aA (aB rfl) (aA (aB rfl) (aA (aB rfl) (aA (aB rfl) (aA (aB rfl) (aA (aB rfl) (aA (aB rfl) (aA (aB rfl) (aA (aG (e:=83) rfl lC yL vJ (h 14 _ rfl)) (aA (aG (e:=3) rfl aF aM aI (h 15 _ rfl)) (aA (aG (e:=3) rfl aF aM aI (h 16 _ rfl)) bJ)))))))))))))))))
def aDw(x:DIns):List AV:=[.int .i64 x.Op,.int .i64 x.A,.int .i64 x.N]
theorem aOn:∀x,noOwn (aDw x)=true:=λ_=>rfl
theorem aGx:∀x,bG (aDw x)=true:=λ_=>rfl
theorem zU:∀x,aJ (aDw x)=true:=λ_=>rfl
theorem aPi:∀x,bB (aDw x)=true:=λ_=>rfl
def wU(x:Dl20Rd):List AV:=[bo (eI .u8) x.b,.int .i64 x.p]
theorem aNm:∀x,noOwn (wU x)=true:=λ_=>rfl
theorem aGe:∀x,bG (wU x)=true:=λx=>by simp only[wU,bG,AV.clean,Bool.and_self,aX aI]
theorem aAn:∀x,aJ (wU x)=true:=λx=>by simp only[wU,aJ,AV.noRef,Bool.and_self,aC aN]
def aEv(x:DEntry):List AV:=[.bool x.There,.bool x.Write,.bool x.User,.int .i64 x.Page]
theorem aQb:∀x,noOwn (aEv x)=true:=λ_=>rfl
theorem aHd:∀x,bG (aEv x)=true:=λ_=>rfl
theorem zG:∀x,aJ (aEv x)=true:=λ_=>rfl
theorem aNo:∀x,bB (aEv x)=true:=λ_=>rfl
def aHk(x:DHost):List AV:=[bo (eI .i64) x.Words,bo cB x.Guests]
theorem aSj:∀x,noOwn (aHk x)=true:=λ_=>rfl
theorem aKo:∀x,bG (aHk x)=true:=λx=>by simp only[aHk,bG,AV.clean,Bool.and_self,aX aI,aX qP]
theorem aEl:∀x,aJ (aHk x)=true:=λx=>by simp only[aHk,aJ,AV.noRef,Bool.and_self,aC aN,aC vZ]
def aCe(x:DCore):List AV:=[bo (eI .i64) x.Regs,.int .i64 x.Pc,.int .i64 x.Root,.int .i64 x.Vector,.int .i64 x.Saved,.bool x.SavedUser,.int .i64 x.Cause,.int .i64 x.Bad,.int .i64 x.Timer,.bool x.Waits,.bool x.User,.bool x.On,.bool x.Stopped]
theorem aTj:∀x,noOwn (aCe x)=true:=λ_=>rfl
theorem aKe:∀x,bG (aCe x)=true:=λx=>by simp only[aCe,bG,AV.clean,Bool.and_self,aX aI]
theorem aEs:∀x,aJ (aCe x)=true:=λx=>by simp only[aCe,aJ,AV.noRef,Bool.and_self,aC aN]
def aCj(x:DBare):List AV:=[bo (eI .i64) x.C.Regs,.int .i64 x.C.Pc,.int .i64 x.C.Root,.int .i64 x.C.Vector,.int .i64 x.C.Saved,.bool x.C.SavedUser,.int .i64 x.C.Cause,.int .i64 x.C.Bad,.int .i64 x.C.Timer,.bool x.C.Waits,.bool x.C.User,.bool x.C.On,.bool x.C.Stopped,bo (eI .i64) x.Mem,bo (eI .i64) x.In,bo (eI .i64) x.Out]
theorem aSw:∀x,noOwn (aCj x)=true:=λ_=>rfl
theorem aJv:∀x,bG (aCj x)=true:=λx=>by simp only[aCj,bG,AV.clean,Bool.and_self,aX aI]
theorem aEj:∀x,aJ (aCj x)=true:=λx=>by simp only[aCj,aJ,AV.noRef,Bool.and_self,aC aN]
def aHn(x:DCore):List AV:=[.own 3 1 (List.length x.Regs) (fl (eI .i64) x.Regs),.int .i64 x.Pc,.int .i64 x.Root,.int .i64 x.Vector,.int .i64 x.Saved,.bool x.SavedUser,.int .i64 x.Cause,.int .i64 x.Bad,.int .i64 x.Timer,.bool x.Waits,.bool x.User,.bool x.On,.bool x.Stopped]
theorem aEo:∀x,aJ (aHn x)=true:=λx=>by simp only[aHn,aJ,AV.noRef,Bool.and_self,aC aN]
theorem aSi:∀x,bB (aHn x)=true:=λx=>by simp only[aHn,bB,AV.noBor,Bool.and_self,cE xF]
theorem bEp:kV aHn uB:=λx H r π j h=>(aA (aG (e:=3) rfl aF aM aI (h 0 _ rfl)) (aA (aB rfl) (aA (aB rfl) (aA (aB rfl) (aA (aB rfl) (aA (aB rfl) (aA (aB rfl) (aA (aB rfl) (aA (aB rfl) (aA (aB rfl) (aA (aB rfl) (aA (aB rfl) (aA (aB rfl) bJ)))))))))))))
def aGv(x:DBare):List AV:=[.own 3 1 (List.length x.C.Regs) (fl (eI .i64) x.C.Regs),.int .i64 x.C.Pc,.int .i64 x.C.Root,.int .i64 x.C.Vector,.int .i64 x.C.Saved,.bool x.C.SavedUser,.int .i64 x.C.Cause,.int .i64 x.C.Bad,.int .i64 x.C.Timer,.bool x.C.Waits,.bool x.C.User,.bool x.C.On,.bool x.C.Stopped,.own 3 1 (List.length x.Mem) (fl (eI .i64) x.Mem),.own 3 1 (List.length x.In) (fl (eI .i64) x.In),.own 3 1 (List.length x.Out) (fl (eI .i64) x.Out)]
theorem aEn:∀x,aJ (aGv x)=true:=λx=>by simp only[aGv,aJ,AV.noRef,Bool.and_self,aC aN]
theorem aUi:∀x,bB (aGv x)=true:=λx=>by simp only[aGv,bB,AV.noBor,Bool.and_self,cE xF]
theorem bEl:kV aGv dV:=λx H r π j h=>(aA (aG (e:=3) rfl aF aM aI (h 0 _ rfl)) (aA (aB rfl) (aA (aB rfl) (aA (aB rfl) (aA (aB rfl) (aA (aB rfl) (aA (aB rfl) (aA (aB rfl) (aA (aB rfl) (aA (aB rfl) (aA (aB rfl) (aA (aB rfl) (aA (aB rfl) (aA (aG (e:=3) rfl aF aM aI (h 13 _ rfl)) (aA (aG (e:=3) rfl aF aM aI (h 14 _ rfl)) (aA (aG (e:=3) rfl aF aM aI (h 15 _ rfl)) bJ))))))))))))))))
def aHp(x:DCore):List AV:=[.own 3 1 (List.length x.Regs) (fl (eI .i64) x.Regs),.int .i64 x.Pc,.int .i64 x.Root,.int .i64 x.Vector,.int .i64 x.Saved,.bool x.SavedUser,.int .i64 x.Cause,.int .i64 x.Bad,.int .i64 x.Timer,.bool x.Waits,.bool x.User,.bool x.On,.bool x.Stopped]
theorem aEr:∀x,aJ (aHp x)=true:=λx=>by simp only[aHp,aJ,AV.noRef,Bool.and_self,aC aN]
theorem aSm:∀x,bB (aHp x)=true:=λx=>by simp only[aHp,bB,AV.noBor,Bool.and_self,cE xF]
theorem bFn:kV aHp aCe:=λx H r π j h=>(aA (aG (e:=3) rfl aF aM aI (h 0 _ rfl)) (aA (aB rfl) (aA (aB rfl) (aA (aB rfl) (aA (aB rfl) (aA (aB rfl) (aA (aB rfl) (aA (aB rfl) (aA (aB rfl) (aA (aB rfl) (aA (aB rfl) (aA (aB rfl) (aA (aB rfl) bJ)))))))))))))
def aGw(x:DBare):List AV:=[.own 3 1 (List.length x.C.Regs) (fl (eI .i64) x.C.Regs),.int .i64 x.C.Pc,.int .i64 x.C.Root,.int .i64 x.C.Vector,.int .i64 x.C.Saved,.bool x.C.SavedUser,.int .i64 x.C.Cause,.int .i64 x.C.Bad,.int .i64 x.C.Timer,.bool x.C.Waits,.bool x.C.User,.bool x.C.On,.bool x.C.Stopped,.own 3 1 (List.length x.Mem) (fl (eI .i64) x.Mem),.own 3 1 (List.length x.In) (fl (eI .i64) x.In),.own 3 1 (List.length x.Out) (fl (eI .i64) x.Out)]
theorem aEh:∀x,aJ (aGw x)=true:=λx=>by simp only[aGw,aJ,AV.noRef,Bool.and_self,aC aN]
theorem aSl:∀x,bB (aGw x)=true:=λx=>by simp only[aGw,bB,AV.noBor,Bool.and_self,cE xF]
theorem bEi:kV aGw aCj:=λx H r π j h=>(aA (aG (e:=3) rfl aF aM aI (h 0 _ rfl)) (aA (aB rfl) (aA (aB rfl) (aA (aB rfl) (aA (aB rfl) (aA (aB rfl) (aA (aB rfl) (aA (aB rfl) (aA (aB rfl) (aA (aB rfl) (aA (aB rfl) (aA (aB rfl) (aA (aB rfl) (aA (aG (e:=3) rfl aF aM aI (h 13 _ rfl)) (aA (aG (e:=3) rfl aF aM aI (h 14 _ rfl)) (aA (aG (e:=3) rfl aF aM aI (h 15 _ rfl)) bJ))))))))))))))))
def zO(x:Dl20Rd):List AV:=[.own 5 1 (List.length x.b) (fl (eI .u8) x.b),.int .i64 x.p]
theorem zY:∀x,aJ (zO x)=true:=λx=>by simp only[zO,aJ,AV.noRef,Bool.and_self,aC aN]
theorem aOv:∀x,bB (zO x)=true:=λx=>by simp only[zO,bB,AV.noBor,Bool.and_self,cE xF]
theorem bBn:kV zO wU:=λx H r π j h=>(aA (aG (e:=5) rfl aF aM aI (h 0 _ rfl)) (aA (aB rfl) bJ))
def xI(x:DGuest):List AV:=[.bool x.Live,.own 3 1 (List.length x.C.Regs) (fl (eI .i64) x.C.Regs),.int .i64 x.C.Pc,.int .i64 x.C.Root,.int .i64 x.C.Vector,.int .i64 x.C.Saved,.bool x.C.SavedUser,.int .i64 x.C.Cause,.int .i64 x.C.Bad,.int .i64 x.C.Timer,.bool x.C.Waits,.bool x.C.User,.bool x.C.On,.bool x.C.Stopped,.own 145 3 (List.length x.Pages) (fl qB x.Pages),.own 3 1 (List.length x.In) (fl (eI .i64) x.In),.own 3 1 (List.length x.Out) (fl (eI .i64) x.Out)]
theorem wK:∀x,aJ (xI x)=true:=λx=>by simp only[xI,aJ,AV.noRef,Bool.and_self,aC aN,aC sY]
theorem aQw:∀x,bB (xI x)=true:=λx=>by simp only[xI,bB,AV.noBor,Bool.and_self,cE xF,cE aGd]
theorem bBu:kV xI cB:=λx H r π j h=>(aA (aB rfl) (aA (aG (e:=3) rfl aF aM aI (h 1 _ rfl)) (aA (aB rfl) (aA (aB rfl) (aA (aB rfl) (aA (aB rfl) (aA (aB rfl) (aA (aB rfl) (aA (aB rfl) (aA (aB rfl) (aA (aB rfl) (aA (aB rfl) (aA (aB rfl) (aA (aB rfl) (aA (aG (e:=145) rfl aLo aAp wI (h 14 _ rfl)) (aA (aG (e:=3) rfl aF aM aI (h 15 _ rfl)) (aA (aG (e:=3) rfl aF aM aI (h 16 _ rfl)) bJ)))))))))))))))))
def eQ(x:DCore)(us:List AV):List AV:= .int .i64 x.Pc:: .int .i64 x.Root:: .int .i64 x.Vector:: .int .i64 x.Saved:: .bool x.SavedUser:: .int .i64 x.Cause:: .int .i64 x.Bad:: .int .i64 x.Timer:: .bool x.Waits:: .bool x.User:: .bool x.On:: .bool x.Stopped::us
def wV(us:List AV):List AV:= .int .i64 (0:Int):: .int .i64 (0:Int):: .int .i64 (0:Int):: .int .i64 (0:Int):: .bool false:: .int .i64 (0:Int):: .int .i64 (0:Int):: .int .i64 (0:Int):: .bool false:: .bool false:: .bool false:: .bool false::us
def bIm(x:DEntry)(us:List AV):List AV:= .bool x.There:: .bool x.Write:: .bool x.User:: .int .i64 x.Page::us
def bGh(us:List AV):List AV:= .bool false:: .bool false:: .bool false:: .int .i64 (0:Int)::us
def bJu(x:DCore)(us:List AV):List AV:= .int .i64 x.Pc:: .int .i64 x.Root:: .int .i64 x.Vector:: .int .i64 x.Saved:: .bool x.SavedUser:: .int .i64 x.Cause:: .int .i64 x.Bad:: .int .i64 x.Timer:: .bool x.Waits:: .bool x.User:: .bool x.On:: .bool x.Stopped::us
def bIq(us:List AV):List AV:= .int .i64 (0:Int):: .int .i64 (0:Int):: .int .i64 (0:Int):: .int .i64 (0:Int):: .bool false:: .int .i64 (0:Int):: .int .i64 (0:Int):: .int .i64 (0:Int):: .bool false:: .bool false:: .bool false:: .bool false::us
theorem rz{ρ:Nat->Option Nat}{n:Nat}{vs us:List AV}(h:Rens ρ n vs us:=by repeat first|exact gI|refine bIf ?_|refine bGt ?_|refine bM bFr ?_|refine bM (qW ?_) ?_|refine bM (aIf dd rfl) ?_|refine bM tK ?_|refine bM (aPf dd rfl rfl) ?_|refine bM (cU (aZ (aC aAn))) ?_|refine bM (cU (aZ (aC vZ))) ?_|refine bM (cU (aZ (aC aEb))) ?_|refine bM (cU (aZ (aC aEd))) ?_|refine bM (cU (aZ (aC aEa))) ?_|refine bM (cU (aZ (aC aEl))) ?_|refine bM (cU (aZ (aC aEs))) ?_|refine bM (cU (aZ (aC aEj))) ?_|refine bM (cU (aZ (aC yS))) ?_|refine bM (cU (aZ (aC zG))) ?_|refine bM (cU (aZ (aC zU))) ?_|refine bM (cU (aZ (aC sY))) ?_|refine bM (cU (aZ (aC eT))) ?_|refine bM (cU (aZ (aC zY))) ?_|refine bM (cU (aZ (aC wK))) ?_|refine bM (cU (aZ (aC aEo))) ?_|refine bM (cU (aZ (aC aEn))) ?_|refine bM (cU (aZ (aC aEr))) ?_|refine bM (cU (aZ (aC aEh))) ?_|refine bM (cU (aZ (aC dE))) ?_|refine bM (cU (aZ (aC aN))) ?_|refine bM (cU (aZ (aC aXm))) ?_):Rens ρ n vs us:=h
theorem cz{H:Heap}{vs us:List AV}(h:Clos H vs us:=by repeat first|exact bJ|refine cs1 ?_|refine aA (aB (cL (aX aGe))) ?_|refine aA (aB (cL (aX qP))) ?_|refine aA (aB (cL (aX aEt))) ?_|refine aA (aB (cL (aX aKp))) ?_|refine aA (aB (cL (aX lP))) ?_|refine aA (aB (cL (aX aKo))) ?_|refine aA (aB (cL (aX aKe))) ?_|refine aA (aB (cL (aX aJv))) ?_|refine aA (aB (cL (aX aDz))) ?_|refine aA (aB (cL (aX aHd))) ?_|refine aA (aB (cL (aX aGx))) ?_|refine aA (aB (cL (aX wI))) ?_|refine aA (aB (cL (aX vJ))) ?_|refine aA (aB (cL (aX aI))) ?_|refine aA (aB (cL (aX aVt))) ?_):Clos H vs us:=h
theorem nrr{p:Prop}(h:p:=by simp only[bIm,eQ,bJu,bGh,wV,bIq,AV.noRef,aJ,AV.noBor,bB,Bool.and_self,aC aAn,aC vZ,aC aEb,aC aEd,aC aEa,aC aEl,aC aEs,aC aEj,aC yS,aC zG,aC zU,aC sY,aC eT,aC zY,aC wK,aC aEo,aC aEn,aC aEr,aC aEh,aC dE,aC aN,aC aXm,aAn,vZ,aEb,aEd,aEa,aEl,aEs,aEj,yS,zG,zU,sY,eT,zY,wK,aEo,aEn,aEr,aEh,dE,cE aNo,cE aPi,cE aGd,cE aKt,cE aOv,cE aQw,cE aSi,cE aUi,cE aSm,cE aSl,cE aTy,cE xF,cE bIy,aNo,aPi,aGd,aKt,aOv,aQw,aSi,aUi,aSm,aSl,aTy]):p:=h
abbrev rI_3(x:List Int):Root:=⟨3,fl (eI .i64) x⟩
abbrev rC83(x:List DSlot):Root:=⟨83,fl eR x⟩
abbrev rO80(x:List DGuest):Root:=⟨80,fl bY x⟩
abbrev rB26(x:DHost):Root:=⟨26,mE x⟩
abbrev rB36(x:DBare):Root:=⟨36,dV x⟩
abbrev rB36_62(x:DBare):Root:=⟨62,dV x⟩
end Go.Proofs.Ytobbmlnagjhofaa
