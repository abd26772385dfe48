/- The types of the plain functions. Made by program. -/
import Derived.Test.YtkjabgefacfpfaaGreatZY
import Derived.Test.YtkjabgefacfpfaaGreatProg
namespace Go.Proofs.YtkjabgefacfpfaaGreat
open Go.RowKit
set_option maxRecDepth 100000
set_option linter.all false
set_option maxHeartbeats 0
noncomputable def rg:=bWm Tryz.prog
abbrev LW(k:Nat)(L:LFun):Prop:=jI Tryz.prog k=some L
structure DCore where
 Regs:List Int
 Pc:Int
 Root:Int
 Vector:Int
 Saved:Int
 SavedUser:Bool
 Cause:Int
 Bad:Int
 Timer:Int
 Waits:Bool
 User:Bool
 On:Bool
 Stopped:Bool
deriving Inhabited
structure DSlot where
 Frame:Int
 Write:Bool
 Dirty:Bool
deriving Inhabited
structure DGuest where
 Live:Bool
 C:DCore
 Pages:List DSlot
 In:List Int
 Out:List Int
deriving Inhabited
structure DHost where
 Words:List Int
 Guests:List DGuest
deriving Inhabited
structure DBare where
 C:DCore
 Mem:List Int
 In:List Int
 Out:List Int
deriving Inhabited
structure DIns where
 Op:Int
 A:Int
 N:Int
deriving Inhabited
structure DShade where
 There:Bool
 Write:Bool
 User:Bool
 Page:Int
 Frame:Int
 Ready:Bool
deriving Inhabited
structure DLine where
 Tag:Int
 At:Int
 What:DShade
deriving Inhabited
structure Dl20Rd where
 b:List Int
 p:Int
deriving Inhabited
structure DExit where
 Why:Int
 Page:Int
 What:DIns
deriving Inhabited
structure DEntry where
 There:Bool
 Write:Bool
 User:Bool
 Page:Int
deriving Inhabited
def aIh(x:DBare):List AV:=[bo (eI .i64) x.C.Regs,.int .i64 x.C.Pc,.int .i64 x.C.Root,.int .i64 x.C.Vector,.int .i64 x.C.Saved,.bool x.C.SavedUser,.int .i64 x.C.Cause,.int .i64 x.C.Bad,.int .i64 x.C.Timer,.bool x.C.Waits,.bool x.C.User,.bool x.C.On,.bool x.C.Stopped,bo (eI .i64) x.Mem,bo (eI .i64) x.In,bo (eI .i64) x.Out]
theorem bCw:∀x,noOwn (aIh x)=true:=λ_=>rfl
theorem aRw:∀x,aY (aIh x)=true:=λx=>by simp only[aIh,aY,AV.clean,Bool.and_self,bC cU]
theorem aKh:∀x,aJ (aIh x)=true:=λx=>by simp only[aIh,aJ,AV.noRef,Bool.and_self,aC bY]
def aHl(x:DCore):List AV:=[bo (eI .i64) x.Regs,.int .i64 x.Pc,.int .i64 x.Root,.int .i64 x.Vector,.int .i64 x.Saved,.bool x.SavedUser,.int .i64 x.Cause,.int .i64 x.Bad,.int .i64 x.Timer,.bool x.Waits,.bool x.User,.bool x.On,.bool x.Stopped]
theorem bCm:∀x,noOwn (aHl x)=true:=λ_=>rfl
theorem aRo:∀x,aY (aHl x)=true:=λx=>by simp only[aHl,aY,AV.clean,Bool.and_self,bC cU]
theorem aKi:∀x,aJ (aHl x)=true:=λx=>by simp only[aHl,aJ,AV.noRef,Bool.and_self,aC bY]
def kS(x:DSlot):List AV:=[.int .i64 x.Frame,.bool x.Write,.bool x.Dirty]
theorem vE:∀x,(kS x).length=3:=λ_=>rfl
theorem aKg:∀x,noOwn (kS x)=true:=λ_=>rfl
theorem aDi:∀x,aY (kS x)=true:=λ_=>rfl
theorem zB:∀x,aJ (kS x)=true:=λ_=>rfl
theorem aRd:∀x,aT (kS x)=true:=λ_=>rfl
def eG(x:DGuest):List AV:=[.bool x.Live,bo (eI .i64) x.C.Regs,.int .i64 x.C.Pc,.int .i64 x.C.Root,.int .i64 x.C.Vector,.int .i64 x.C.Saved,.bool x.C.SavedUser,.int .i64 x.C.Cause,.int .i64 x.C.Bad,.int .i64 x.C.Timer,.bool x.C.Waits,.bool x.C.User,.bool x.C.On,.bool x.C.Stopped,bo kS x.Pages,bo (eI .i64) x.In,bo (eI .i64) x.Out]
theorem aGa:∀x,(eG x).length=17:=λ_=>rfl
theorem bBg:∀x,noOwn (eG x)=true:=λ_=>rfl
theorem aJk:∀x,aY (eG x)=true:=λx=>by simp only[eG,aY,AV.clean,Bool.and_self,bC cU,bC aDi]
theorem aDd:∀x,aJ (eG x)=true:=λx=>by simp only[eG,aJ,AV.noRef,Bool.and_self,aC bY,aC zB]
def fM(x:DHost):List AV:=[bo (eI .i64) x.Words,bo eG x.Guests]
theorem bCc:∀x,noOwn (fM x)=true:=λ_=>rfl
theorem qO:∀x,aY (fM x)=true:=λx=>by simp only[fM,aY,AV.clean,Bool.and_self,bC cU,bC aJk]
theorem aKa:∀x,aJ (fM x)=true:=λx=>by simp only[fM,aJ,AV.noRef,Bool.and_self,aC bY,aC aDd]
def yM(x:DSlot):List AV:=[.int .i64 x.Frame,.bool x.Write,.bool x.Dirty]
theorem aTt:∀x,(yM x).length=3:=λ_=>rfl
theorem aFh:∀x,noOwn (yM x)=true:=λ_=>rfl
theorem zU:∀x,aY (yM x)=true:=λ_=>rfl
theorem uW:∀x,aJ (yM x)=true:=λ_=>rfl
theorem aLv:∀x,aT (yM x)=true:=λ_=>rfl
def yP(x:DGuest):List AV:=[.bool x.Live,bo (eI .i64) x.C.Regs,.int .i64 x.C.Pc,.int .i64 x.C.Root,.int .i64 x.C.Vector,.int .i64 x.C.Saved,.bool x.C.SavedUser,.int .i64 x.C.Cause,.int .i64 x.C.Bad,.int .i64 x.C.Timer,.bool x.C.Waits,.bool x.C.User,.bool x.C.On,.bool x.C.Stopped,bo yM x.Pages,bo (eI .i64) x.In,bo (eI .i64) x.Out]
theorem aYa:∀x,noOwn (yP x)=true:=λ_=>rfl
theorem aFn:∀x,aY (yP x)=true:=λx=>by simp only[yP,aY,AV.clean,Bool.and_self,bC cU,bC zU]
theorem aAp:∀x,aJ (yP x)=true:=λx=>by simp only[yP,aJ,AV.noRef,Bool.and_self,aC bY,aC uW]
def bJ(x:DGuest):List AV:=[.bool x.Live,.own 3 1 (List.length x.C.Regs) (fl (eI .i64) x.C.Regs),.int .i64 x.C.Pc,.int .i64 x.C.Root,.int .i64 x.C.Vector,.int .i64 x.C.Saved,.bool x.C.SavedUser,.int .i64 x.C.Cause,.int .i64 x.C.Bad,.int .i64 x.C.Timer,.bool x.C.Waits,.bool x.C.User,.bool x.C.On,.bool x.C.Stopped,.own 53 3 (List.length x.Pages) (fl kS x.Pages),.own 3 1 (List.length x.In) (fl (eI .i64) x.In),.own 3 1 (List.length x.Out) (fl (eI .i64) x.Out)]
theorem aZ:∀x,(bJ x).length=17:=λ_=>rfl
theorem gE:∀x,aJ (bJ x)=true:=λx=>by simp only[bJ,aJ,AV.noRef,Bool.and_self,aC bY,aC zB]
theorem bCg:∀x,aT (bJ x)=true:=λx=>by simp only[bJ,aT,AV.noBor,Bool.and_self,bS aFb,bS aRd]
theorem mQ:mP bJ eG:=λx H r π j h=>(aE (aD rfl) (aE (cN (e:=3) rfl bK cK cU (h 1 _ rfl)) (aE (aD rfl) (aE (aD rfl) (aE (aD rfl) (aE (aD rfl) (aE (aD rfl) (aE (aD rfl) (aE (aD rfl) (aE (aD rfl) (aE (aD rfl) (aE (aD rfl) (aE (aD rfl) (aE (aD rfl) (aE (cN (e:=53) rfl vE aKg aDi (h 14 _ rfl)) (aE (cN (e:=3) rfl bK cK cU (h 15 _ rfl)) (aE (cN (e:=3) rfl bK cK cU (h 16 _ rfl)) hC)))))))))))))))))
def oR(x:DShade):List AV:=[.bool x.There,.bool x.Write,.bool x.User,.int .i64 x.Page,.int .i64 x.Frame,.bool x.Ready]
theorem aIz:∀x,(oR x).length=6:=λ_=>rfl
theorem aEz:∀x,noOwn (oR x)=true:=λ_=>rfl
theorem aAj:∀x,aY (oR x)=true:=λ_=>rfl
theorem pF:∀x,aJ (oR x)=true:=λ_=>rfl
theorem aYd:∀x,aT (oR x)=true:=λ_=>rfl
def aJv(x:DEntry):List AV:=[.bool x.There,.bool x.Write,.bool x.User,.int .i64 x.Page]
theorem aZm:∀x,noOwn (aJv x)=true:=λ_=>rfl
theorem aNt:∀x,aY (aJv x)=true:=λ_=>rfl
theorem aEy:∀x,aJ (aJv x)=true:=λ_=>rfl
theorem aWv:∀x,aT (aJv x)=true:=λ_=>rfl
def eU(x:DIns):List AV:=[.int .i64 x.Op,.int .i64 x.A,.int .i64 x.N]
theorem bAl:∀x,noOwn (eU x)=true:=λ_=>rfl
theorem aRx:∀x,aY (eU x)=true:=λ_=>rfl
theorem sX:∀x,aJ (eU x)=true:=λ_=>rfl
theorem bDe:∀x,aT (eU x)=true:=λ_=>rfl
def aJp(x:DExit):List AV:=[.int .i64 x.Why,.int .i64 x.Page,.int .i64 x.What.Op,.int .i64 x.What.A,.int .i64 x.What.N]
theorem aVp:∀x,noOwn (aJp x)=true:=λ_=>rfl
theorem aMq:∀x,aY (aJp x)=true:=λ_=>rfl
theorem aFg:∀x,aJ (aJp x)=true:=λ_=>rfl
theorem aZj:∀x,aT (aJp x)=true:=λ_=>rfl
def aJm(x:DLine):List AV:=[.int .i64 x.Tag,.int .i64 x.At,.bool x.What.There,.bool x.What.Write,.bool x.What.User,.int .i64 x.What.Page,.int .i64 x.What.Frame,.bool x.What.Ready]
theorem aXb:∀x,noOwn (aJm x)=true:=λ_=>rfl
theorem aMf:∀x,aY (aJm x)=true:=λ_=>rfl
theorem aEv:∀x,aJ (aJm x)=true:=λ_=>rfl
theorem aZk:∀x,aT (aJm x)=true:=λ_=>rfl
def aBi(x:Dl20Rd):List AV:=[bo (eI .u8) x.b,.int .i64 x.p]
theorem aUv:∀x,noOwn (aBi x)=true:=λ_=>rfl
theorem aNl:∀x,aY (aBi x)=true:=λx=>by simp only[aBi,aY,AV.clean,Bool.and_self,bC cU]
theorem aEf:∀x,aJ (aBi x)=true:=λx=>by simp only[aBi,aJ,AV.noRef,Bool.and_self,aC bY]
def aMw(x:DHost):List AV:=[bo (eI .i64) x.Words,bo yP x.Guests]
theorem bCz:∀x,noOwn (aMw x)=true:=λ_=>rfl
theorem aRk:∀x,aY (aMw x)=true:=λx=>by simp only[aMw,aY,AV.clean,Bool.and_self,bC cU,bC aFn]
theorem aJt:∀x,aJ (aMw x)=true:=λx=>by simp only[aMw,aJ,AV.noRef,Bool.and_self,aC bY,aC aAp]
def aBs(x:DCore):List AV:=[bo (eI .i64) x.Regs,.int .i64 x.Pc,.int .i64 x.Root,.int .i64 x.Vector,.int .i64 x.Saved,.bool x.SavedUser,.int .i64 x.Cause,.int .i64 x.Bad,.int .i64 x.Timer,.bool x.Waits,.bool x.User,.bool x.On,.bool x.Stopped]
theorem aWy:∀x,noOwn (aBs x)=true:=λ_=>rfl
theorem aMr:∀x,aY (aBs x)=true:=λx=>by simp only[aBs,aY,AV.clean,Bool.and_self,bC cU]
theorem aEe:∀x,aJ (aBs x)=true:=λx=>by simp only[aBs,aJ,AV.noRef,Bool.and_self,aC bY]
def aNr(x:DCore):List AV:=[.own 3 1 (List.length x.Regs) (fl (eI .i64) x.Regs),.int .i64 x.Pc,.int .i64 x.Root,.int .i64 x.Vector,.int .i64 x.Saved,.bool x.SavedUser,.int .i64 x.Cause,.int .i64 x.Bad,.int .i64 x.Timer,.bool x.Waits,.bool x.User,.bool x.On,.bool x.Stopped]
theorem aJo:∀x,aJ (aNr x)=true:=λx=>by simp only[aNr,aJ,AV.noRef,Bool.and_self,aC bY]
theorem bBc:∀x,aT (aNr x)=true:=λx=>by simp only[aNr,aT,AV.noBor,Bool.and_self,bS aFb]
theorem bPu:mP aNr aHl:=λx H r π j h=>(aE (cN (e:=3) rfl bK cK cU (h 0 _ rfl)) (aE (aD rfl) (aE (aD rfl) (aE (aD rfl) (aE (aD rfl) (aE (aD rfl) (aE (aD rfl) (aE (aD rfl) (aE (aD rfl) (aE (aD rfl) (aE (aD rfl) (aE (aD rfl) (aE (aD rfl) hC)))))))))))))
def aMl(x:DBare):List AV:=[.own 3 1 (List.length x.C.Regs) (fl (eI .i64) x.C.Regs),.int .i64 x.C.Pc,.int .i64 x.C.Root,.int .i64 x.C.Vector,.int .i64 x.C.Saved,.bool x.C.SavedUser,.int .i64 x.C.Cause,.int .i64 x.C.Bad,.int .i64 x.C.Timer,.bool x.C.Waits,.bool x.C.User,.bool x.C.On,.bool x.C.Stopped,.own 3 1 (List.length x.Mem) (fl (eI .i64) x.Mem),.own 3 1 (List.length x.In) (fl (eI .i64) x.In),.own 3 1 (List.length x.Out) (fl (eI .i64) x.Out)]
theorem aKb:∀x,aJ (aMl x)=true:=λx=>by simp only[aMl,aJ,AV.noRef,Bool.and_self,aC bY]
theorem bBl:∀x,aT (aMl x)=true:=λx=>by simp only[aMl,aT,AV.noBor,Bool.and_self,bS aFb]
theorem bQw:mP aMl aIh:=λx H r π j h=>(aE (cN (e:=3) rfl bK cK cU (h 0 _ rfl)) (aE (aD rfl) (aE (aD rfl) (aE (aD rfl) (aE (aD rfl) (aE (aD rfl) (aE (aD rfl) (aE (aD rfl) (aE (aD rfl) (aE (aD rfl) (aE (aD rfl) (aE (aD rfl) (aE (aD rfl) (aE (cN (e:=3) rfl bK cK cU (h 13 _ rfl)) (aE (cN (e:=3) rfl bK cK cU (h 14 _ rfl)) (aE (cN (e:=3) rfl bK cK cU (h 15 _ rfl)) hC))))))))))))))))
def aEu(x:Dl20Rd):List AV:=[.own 5 1 (List.length x.b) (fl (eI .u8) x.b),.int .i64 x.p]
theorem aEj:∀x,aJ (aEu x)=true:=λx=>by simp only[aEu,aJ,AV.noRef,Bool.and_self,aC bY]
theorem aXn:∀x,aT (aEu x)=true:=λx=>by simp only[aEu,aT,AV.noBor,Bool.and_self,bS aFb]
theorem bNj:mP aEu aBi:=λx H r π j h=>(aE (cN (e:=5) rfl bK cK cU (h 0 _ rfl)) (aE (aD rfl) hC))
def aDz(x:DCore):List AV:=[.own 3 1 (List.length x.Regs) (fl (eI .i64) x.Regs),.int .i64 x.Pc,.int .i64 x.Root,.int .i64 x.Vector,.int .i64 x.Saved,.bool x.SavedUser,.int .i64 x.Cause,.int .i64 x.Bad,.int .i64 x.Timer,.bool x.Waits,.bool x.User,.bool x.On,.bool x.Stopped]
theorem aEx:∀x,aJ (aDz x)=true:=λx=>by simp only[aDz,aJ,AV.noRef,Bool.and_self,aC bY]
theorem aVm:∀x,aT (aDz x)=true:=λx=>by simp only[aDz,aT,AV.noBor,Bool.and_self,bS aFb]
theorem bOa:mP aDz aBs:=λx H r π j h=>(aE (cN (e:=3) rfl bK cK cU (h 0 _ rfl)) (aE (aD rfl) (aE (aD rfl) (aE (aD rfl) (aE (aD rfl) (aE (aD rfl) (aE (aD rfl) (aE (aD rfl) (aE (aD rfl) (aE (aD rfl) (aE (aD rfl) (aE (aD rfl) (aE (aD rfl) hC)))))))))))))
def aBl(x:DGuest):List AV:=[.bool x.Live,.own 3 1 (List.length x.C.Regs) (fl (eI .i64) x.C.Regs),.int .i64 x.C.Pc,.int .i64 x.C.Root,.int .i64 x.C.Vector,.int .i64 x.C.Saved,.bool x.C.SavedUser,.int .i64 x.C.Cause,.int .i64 x.C.Bad,.int .i64 x.C.Timer,.bool x.C.Waits,.bool x.C.User,.bool x.C.On,.bool x.C.Stopped,.own 184 3 (List.length x.Pages) (fl yM x.Pages),.own 3 1 (List.length x.In) (fl (eI .i64) x.In),.own 3 1 (List.length x.Out) (fl (eI .i64) x.Out)]
theorem zZ:∀x,aJ (aBl x)=true:=λx=>by simp only[aBl,aJ,AV.noRef,Bool.and_self,aC bY,aC uW]
theorem aYk:∀x,aT (aBl x)=true:=λx=>by simp only[aBl,aT,AV.noBor,Bool.and_self,bS aFb,bS aLv]
theorem bMa:mP aBl yP:=λx H r π j h=>(aE (aD rfl) (aE (cN (e:=3) rfl bK cK cU (h 1 _ rfl)) (aE (aD rfl) (aE (aD rfl) (aE (aD rfl) (aE (aD rfl) (aE (aD rfl) (aE (aD rfl) (aE (aD rfl) (aE (aD rfl) (aE (aD rfl) (aE (aD rfl) (aE (aD rfl) (aE (aD rfl) (aE (cN (e:=184) rfl aTt aFh zU (h 14 _ rfl)) (aE (cN (e:=3) rfl bK cK cU (h 15 _ rfl)) (aE (cN (e:=3) rfl bK cK cU (h 16 _ rfl)) hC)))))))))))))))))
def cL(x:DCore)(us:List AV):List AV:= .int .i64 x.Pc:: .int .i64 x.Root:: .int .i64 x.Vector:: .int .i64 x.Saved:: .bool x.SavedUser:: .int .i64 x.Cause:: .int .i64 x.Bad:: .int .i64 x.Timer:: .bool x.Waits:: .bool x.User:: .bool x.On:: .bool x.Stopped::us
def aGd(us:List AV):List AV:= .int .i64 (0:Int):: .int .i64 (0:Int):: .int .i64 (0:Int):: .int .i64 (0:Int):: .bool false:: .int .i64 (0:Int):: .int .i64 (0:Int):: .int .i64 (0:Int):: .bool false:: .bool false:: .bool false:: .bool false::us
def bWb(x:DShade)(us:List AV):List AV:= .bool x.There:: .bool x.Write:: .bool x.User:: .int .i64 x.Page:: .int .i64 x.Frame:: .bool x.Ready::us
def bVl(us:List AV):List AV:= .bool false:: .bool false:: .bool false:: .int .i64 (0:Int):: .int .i64 (0:Int):: .bool false::us
def bVu(x:DEntry)(us:List AV):List AV:= .bool x.There:: .bool x.Write:: .bool x.User:: .int .i64 x.Page::us
def bUt(us:List AV):List AV:= .bool false:: .bool false:: .bool false:: .int .i64 (0:Int)::us
def bVx(x:DCore)(us:List AV):List AV:= .int .i64 x.Pc:: .int .i64 x.Root:: .int .i64 x.Vector:: .int .i64 x.Saved:: .bool x.SavedUser:: .int .i64 x.Cause:: .int .i64 x.Bad:: .int .i64 x.Timer:: .bool x.Waits:: .bool x.User:: .bool x.On:: .bool x.Stopped::us
def bRp(us:List AV):List AV:= .int .i64 (0:Int):: .int .i64 (0:Int):: .int .i64 (0:Int):: .int .i64 (0:Int):: .bool false:: .int .i64 (0:Int):: .int .i64 (0:Int):: .int .i64 (0:Int):: .bool false:: .bool false:: .bool false:: .bool false::us
theorem rz{ρ:Nat->Option Nat}{n:Nat}{vs us:List AV}(h:Rens ρ n vs us:=by repeat first|exact gV|refine bRr ?_|refine bRv ?_|refine aX bQv ?_|refine aX (gF ?_) ?_|refine aX (aDv dd rfl) ?_|refine aX aOv ?_|refine aX (aVz dd rfl rfl) ?_|refine aX (cG (aS (aC aEf))) ?_|refine aX (cG (aS (aC aEe))) ?_|refine aX (cG (aS (aC aAp))) ?_|refine aX (cG (aS (aC aKa))) ?_|refine aX (cG (aS (aC aKi))) ?_|refine aX (cG (aS (aC aDd))) ?_|refine aX (cG (aS (aC aKh))) ?_|refine aX (cG (aS (aC aJt))) ?_|refine aX (cG (aS (aC pF))) ?_|refine aX (cG (aS (aC aEv))) ?_|refine aX (cG (aS (aC aFg))) ?_|refine aX (cG (aS (aC aEy))) ?_|refine aX (cG (aS (aC uW))) ?_|refine aX (cG (aS (aC zB))) ?_|refine aX (cG (aS (aC sX))) ?_|refine aX (cG (aS (aC aEj))) ?_|refine aX (cG (aS (aC aEx))) ?_|refine aX (cG (aS (aC zZ))) ?_|refine aX (cG (aS (aC aJo))) ?_|refine aX (cG (aS (aC gE))) ?_|refine aX (cG (aS (aC aKb))) ?_|refine aX (cG (aS (aC bY))) ?_|refine aX (cG (aS (aC bEp))) ?_):Rens ρ n vs us:=h
theorem cz{H:Heap}{vs us:List AV}(h:Clos H vs us:=by repeat first|exact hC|refine cs1 ?_|refine aE (aD (dG (bC aNl))) ?_|refine aE (aD (dG (bC aMr))) ?_|refine aE (aD (dG (bC aFn))) ?_|refine aE (aD (dG (bC qO))) ?_|refine aE (aD (dG (bC aRo))) ?_|refine aE (aD (dG (bC aJk))) ?_|refine aE (aD (dG (bC aRw))) ?_|refine aE (aD (dG (bC aRk))) ?_|refine aE (aD (dG (bC aAj))) ?_|refine aE (aD (dG (bC aMf))) ?_|refine aE (aD (dG (bC aMq))) ?_|refine aE (aD (dG (bC aNt))) ?_|refine aE (aD (dG (bC zU))) ?_|refine aE (aD (dG (bC aDi))) ?_|refine aE (aD (dG (bC aRx))) ?_|refine aE (aD (dG (bC cU))) ?_|refine aE (aD (dG (bC bGh))) ?_):Clos H vs us:=h
theorem nrr{p:Prop}(h:p:=by simp only[bWb,bVu,bVx,cL,bVl,bUt,bRp,aGd,AV.noRef,aJ,AV.noBor,aT,Bool.and_self,aC aEf,aC aEe,aC aAp,aC aKa,aC aKi,aC aDd,aC aKh,aC aJt,aC pF,aC aEv,aC aFg,aC aEy,aC uW,aC zB,aC sX,aC aEj,aC aEx,aC zZ,aC aJo,aC gE,aC aKb,aC bY,aC bEp,aEf,aEe,aAp,aKa,aKi,aDd,aKh,aJt,pF,aEv,aFg,aEy,uW,zB,sX,aEj,aEx,zZ,aJo,gE,aKb,bS aYd,bS aZk,bS aZj,bS aWv,bS aLv,bS aRd,bS bDe,bS aXn,bS aVm,bS aYk,bS bBc,bS bCg,bS bBl,bS aFb,bS bVz,aYd,aZk,aZj,aWv,aLv,aRd,bDe,aXn,aVm,aYk,bBc,bCg,bBl]):p:=h
abbrev zc0:List AV:=[bb false,.nil,ii 0,ii 0,ii 0,ii 0,bb false,ii 0,ii 0,ii 0,bb false,bb false,bb false,bb false,.nil,.nil,.nil]
abbrev rI_3(x:List Int):Root:=⟨3,fl (eI .i64) x⟩
abbrev rO38(x:List DGuest):Root:=⟨38,fl bJ x⟩
abbrev rB26(x:DHost):Root:=⟨26,fM x⟩
abbrev rC103(x:List DShade):Root:=⟨103,fl oR x⟩
end Go.Proofs.YtkjabgefacfpfaaGreat
