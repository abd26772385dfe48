/- The types of the plain functions. Made by program. -/
import Derived.Test.YtkjabgefacfpfaaZY
import Derived.Test.YtkjabgefacfpfaaProg
namespace Go.Proofs.Ytkjabgefacfpfaa
open Go.RowKit
set_option maxRecDepth 100000
set_option linter.all false
set_option maxHeartbeats 0
noncomputable def rg:=bNw Try.prog
abbrev LW(k:Nat)(L:LFun):Prop:=iZ Try.prog k=some L
structure DCore where
 Regs:List Int
 Pc:Int
 Root:Int
 Vector:Int
 Saved:Int
 SavedUser:Bool
 Cause:Int
 Bad:Int
 Timer:Int
 Waits:Bool
 User:Bool
 On:Bool
 Stopped:Bool
deriving Inhabited
structure DSlot where
 Frame:Int
 Write:Bool
 Dirty:Bool
deriving Inhabited
structure DGuest where
 Live:Bool
 C:DCore
 Pages:List DSlot
 In:List Int
 Out:List Int
deriving Inhabited
structure DHost where
 Words:List Int
 Guests:List DGuest
deriving Inhabited
structure DShade where
 There:Bool
 Write:Bool
 User:Bool
 Page:Int
 Frame:Int
 Ready:Bool
deriving Inhabited
structure DLine where
 Tag:Int
 At:Int
 What:DShade
deriving Inhabited
structure DBare where
 C:DCore
 Mem:List Int
 In:List Int
 Out:List Int
deriving Inhabited
structure Dl20Rd where
 b:List Int
 p:Int
deriving Inhabited
structure DEntry where
 There:Bool
 Write:Bool
 User:Bool
 Page:Int
deriving Inhabited
structure DIns where
 Op:Int
 A:Int
 N:Int
deriving Inhabited
def aFp(x:DBare):List AV:=[bo (eI .i64) x.C.Regs,.int .i64 x.C.Pc,.int .i64 x.C.Root,.int .i64 x.C.Vector,.int .i64 x.C.Saved,.bool x.C.SavedUser,.int .i64 x.C.Cause,.int .i64 x.C.Bad,.int .i64 x.C.Timer,.bool x.C.Waits,.bool x.C.User,.bool x.C.On,.bool x.C.Stopped,bo (eI .i64) x.Mem,bo (eI .i64) x.In,bo (eI .i64) x.Out]
theorem aYq:∀x,noOwn (aFp x)=true:=λ_=>rfl
theorem aOx:∀x,aV (aFp x)=true:=λx=>by simp only[aFp,aV,AV.clean,Bool.and_self,aU bG]
theorem aIf:∀x,aI (aFp x)=true:=λx=>by simp only[aFp,aI,AV.noRef,Bool.and_self,aE bA]
def zR(x:DCore):List AV:=[bo (eI .i64) x.Regs,.int .i64 x.Pc,.int .i64 x.Root,.int .i64 x.Vector,.int .i64 x.Saved,.bool x.SavedUser,.int .i64 x.Cause,.int .i64 x.Bad,.int .i64 x.Timer,.bool x.Waits,.bool x.User,.bool x.On,.bool x.Stopped]
theorem aYj:∀x,noOwn (zR x)=true:=λ_=>rfl
theorem aOr:∀x,aV (zR x)=true:=λx=>by simp only[zR,aV,AV.clean,Bool.and_self,aU bG]
theorem aHr:∀x,aI (zR x)=true:=λx=>by simp only[zR,aI,AV.noRef,Bool.and_self,aE bA]
def kW(x:DSlot):List AV:=[.int .i64 x.Frame,.bool x.Write,.bool x.Dirty]
theorem sH:∀x,(kW x).length=3:=λ_=>rfl
theorem aIi:∀x,noOwn (kW x)=true:=λ_=>rfl
theorem aBw:∀x,aV (kW x)=true:=λ_=>rfl
theorem gE:∀x,aI (kW x)=true:=λ_=>rfl
theorem aNs:∀x,aQ (kW x)=true:=λ_=>rfl
def dS(x:DGuest):List AV:=[.bool x.Live,bo (eI .i64) x.C.Regs,.int .i64 x.C.Pc,.int .i64 x.C.Root,.int .i64 x.C.Vector,.int .i64 x.C.Saved,.bool x.C.SavedUser,.int .i64 x.C.Cause,.int .i64 x.C.Bad,.int .i64 x.C.Timer,.bool x.C.Waits,.bool x.C.User,.bool x.C.On,.bool x.C.Stopped,bo kW x.Pages,bo (eI .i64) x.In,bo (eI .i64) x.Out]
theorem aXs:∀x,noOwn (dS x)=true:=λ_=>rfl
theorem aHo:∀x,aV (dS x)=true:=λx=>by simp only[dS,aV,AV.clean,Bool.and_self,aU bG,aU aBw]
theorem aBt:∀x,aI (dS x)=true:=λx=>by simp only[dS,aI,AV.noRef,Bool.and_self,aE bA,aE gE]
def yU(x:DHost):List AV:=[bo (eI .i64) x.Words,bo dS x.Guests]
theorem aYp:∀x,noOwn (yU x)=true:=λ_=>rfl
theorem aOe:∀x,aV (yU x)=true:=λx=>by simp only[yU,aV,AV.clean,Bool.and_self,aU bG,aU aHo]
theorem aIh:∀x,aI (yU x)=true:=λx=>by simp only[yU,aI,AV.noRef,Bool.and_self,aE bA,aE aBt]
def rL(x:DSlot):List AV:=[.int .i64 x.Frame,.bool x.Write,.bool x.Dirty]
theorem aPx:∀x,(rL x).length=3:=λ_=>rfl
theorem aEj:∀x,noOwn (rL x)=true:=λ_=>rfl
theorem zF:∀x,aV (rL x)=true:=λ_=>rfl
theorem vB:∀x,aI (rL x)=true:=λ_=>rfl
theorem aKh:∀x,aQ (rL x)=true:=λ_=>rfl
def cH(x:DGuest):List AV:=[.bool x.Live,bo (eI .i64) x.C.Regs,.int .i64 x.C.Pc,.int .i64 x.C.Root,.int .i64 x.C.Vector,.int .i64 x.C.Saved,.bool x.C.SavedUser,.int .i64 x.C.Cause,.int .i64 x.C.Bad,.int .i64 x.C.Timer,.bool x.C.Waits,.bool x.C.User,.bool x.C.On,.bool x.C.Stopped,bo rL x.Pages,bo (eI .i64) x.In,bo (eI .i64) x.Out]
theorem aTy:∀x,noOwn (cH x)=true:=λ_=>rfl
theorem vA:∀x,aV (cH x)=true:=λx=>by simp only[cH,aV,AV.clean,Bool.and_self,aU bG,aU zF]
theorem zU:∀x,aI (cH x)=true:=λx=>by simp only[cH,aI,AV.noRef,Bool.and_self,aE bA,aE vB]
def bV(x:DGuest):List AV:=[.bool x.Live,.own 3 1 (List.length x.C.Regs) (fl (eI .i64) x.C.Regs),.int .i64 x.C.Pc,.int .i64 x.C.Root,.int .i64 x.C.Vector,.int .i64 x.C.Saved,.bool x.C.SavedUser,.int .i64 x.C.Cause,.int .i64 x.C.Bad,.int .i64 x.C.Timer,.bool x.C.Waits,.bool x.C.User,.bool x.C.On,.bool x.C.Stopped,.own 43 3 (List.length x.Pages) (fl kW x.Pages),.own 3 1 (List.length x.In) (fl (eI .i64) x.In),.own 3 1 (List.length x.Out) (fl (eI .i64) x.Out)]
theorem aS:∀x,(bV x).length=17:=λ_=>rfl
theorem cQ:∀x,aI (bV x)=true:=λx=>by simp only[bV,aI,AV.noRef,Bool.and_self,aE bA,aE gE]
theorem aXa:∀x,aQ (bV x)=true:=λx=>by simp only[bV,aQ,AV.noBor,Bool.and_self,bN aDr,bN aNs]
theorem cO:mS bV dS:=λx H r π j h=>(aB (aF rfl) (aB (bD (e:=3) rfl aX bI bG (h 1 _ rfl)) (aB (aF rfl) (aB (aF rfl) (aB (aF rfl) (aB (aF rfl) (aB (aF rfl) (aB (aF rfl) (aB (aF rfl) (aB (aF rfl) (aB (aF rfl) (aB (aF rfl) (aB (aF rfl) (aB (aF rfl) (aB (bD (e:=43) rfl sH aIi aBw (h 14 _ rfl)) (aB (bD (e:=3) rfl aX bI bG (h 15 _ rfl)) (aB (bD (e:=3) rfl aX bI bG (h 16 _ rfl)) cL)))))))))))))))))
def aNo(x:DShade):List AV:=[.bool x.There,.bool x.Write,.bool x.User,.int .i64 x.Page,.int .i64 x.Frame,.bool x.Ready]
theorem aXx:∀x,noOwn (aNo x)=true:=λ_=>rfl
theorem aNy:∀x,aV (aNo x)=true:=λ_=>rfl
theorem aHt:∀x,aI (aNo x)=true:=λ_=>rfl
theorem aXz:∀x,aQ (aNo x)=true:=λ_=>rfl
def aHz(x:DEntry):List AV:=[.bool x.There,.bool x.Write,.bool x.User,.int .i64 x.Page]
theorem aTr:∀x,noOwn (aHz x)=true:=λ_=>rfl
theorem aLd:∀x,aV (aHz x)=true:=λ_=>rfl
theorem aEa:∀x,aI (aHz x)=true:=λ_=>rfl
theorem aVr:∀x,aQ (aHz x)=true:=λ_=>rfl
def aIc(x:DIns):List AV:=[.int .i64 x.Op,.int .i64 x.A,.int .i64 x.N]
theorem aTw:∀x,noOwn (aIc x)=true:=λ_=>rfl
theorem aKd:∀x,aV (aIc x)=true:=λ_=>rfl
theorem aDq:∀x,aI (aIc x)=true:=λ_=>rfl
theorem aUr:∀x,aQ (aIc x)=true:=λ_=>rfl
def aNw(x:DLine):List AV:=[.int .i64 x.Tag,.int .i64 x.At,.bool x.What.There,.bool x.What.Write,.bool x.What.User,.int .i64 x.What.Page,.int .i64 x.What.Frame,.bool x.What.Ready]
theorem aWn:∀x,noOwn (aNw x)=true:=λ_=>rfl
theorem aNl:∀x,aV (aNw x)=true:=λ_=>rfl
theorem aHq:∀x,aI (aNw x)=true:=λ_=>rfl
theorem aXk:∀x,aQ (aNw x)=true:=λ_=>rfl
def xK(x:Dl20Rd):List AV:=[bo (eI .u8) x.b,.int .i64 x.p]
theorem aSs:∀x,noOwn (xK x)=true:=λ_=>rfl
theorem aKj:∀x,aV (xK x)=true:=λx=>by simp only[xK,aV,AV.clean,Bool.and_self,aU bG]
theorem lY:∀x,aI (xK x)=true:=λx=>by simp only[xK,aI,AV.noRef,Bool.and_self,aE bA]
def aJr(x:DHost):List AV:=[bo (eI .i64) x.Words,bo cH x.Guests]
theorem aWw:∀x,noOwn (aJr x)=true:=λ_=>rfl
theorem aOq:∀x,aV (aJr x)=true:=λx=>by simp only[aJr,aV,AV.clean,Bool.and_self,aU bG,aU vA]
theorem aIa:∀x,aI (aJr x)=true:=λx=>by simp only[aJr,aI,AV.noRef,Bool.and_self,aE bA,aE zU]
def aAe(x:DCore):List AV:=[bo (eI .i64) x.Regs,.int .i64 x.Pc,.int .i64 x.Root,.int .i64 x.Vector,.int .i64 x.Saved,.bool x.SavedUser,.int .i64 x.Cause,.int .i64 x.Bad,.int .i64 x.Timer,.bool x.Waits,.bool x.User,.bool x.On,.bool x.Stopped]
theorem aVa:∀x,noOwn (aAe x)=true:=λ_=>rfl
theorem aKa:∀x,aV (aAe x)=true:=λx=>by simp only[aAe,aV,AV.clean,Bool.and_self,aU bG]
theorem aEm:∀x,aI (aAe x)=true:=λx=>by simp only[aAe,aI,AV.noRef,Bool.and_self,aE bA]
def aJy(x:DCore):List AV:=[.own 3 1 (List.length x.Regs) (fl (eI .i64) x.Regs),.int .i64 x.Pc,.int .i64 x.Root,.int .i64 x.Vector,.int .i64 x.Saved,.bool x.SavedUser,.int .i64 x.Cause,.int .i64 x.Bad,.int .i64 x.Timer,.bool x.Waits,.bool x.User,.bool x.On,.bool x.Stopped]
theorem aHn:∀x,aI (aJy x)=true:=λx=>by simp only[aJy,aI,AV.noRef,Bool.and_self,aE bA]
theorem aYt:∀x,aQ (aJy x)=true:=λx=>by simp only[aJy,aQ,AV.noBor,Bool.and_self,bN aDr]
theorem bIn:mS aJy zR:=λx H r π j h=>(aB (bD (e:=3) rfl aX bI bG (h 0 _ rfl)) (aB (aF rfl) (aB (aF rfl) (aB (aF rfl) (aB (aF rfl) (aB (aF rfl) (aB (aF rfl) (aB (aF rfl) (aB (aF rfl) (aB (aF rfl) (aB (aF rfl) (aB (aF rfl) (aB (aF rfl) cL)))))))))))))
def aKg(x:DBare):List AV:=[.own 3 1 (List.length x.C.Regs) (fl (eI .i64) x.C.Regs),.int .i64 x.C.Pc,.int .i64 x.C.Root,.int .i64 x.C.Vector,.int .i64 x.C.Saved,.bool x.C.SavedUser,.int .i64 x.C.Cause,.int .i64 x.C.Bad,.int .i64 x.C.Timer,.bool x.C.Waits,.bool x.C.User,.bool x.C.On,.bool x.C.Stopped,.own 3 1 (List.length x.Mem) (fl (eI .i64) x.Mem),.own 3 1 (List.length x.In) (fl (eI .i64) x.In),.own 3 1 (List.length x.Out) (fl (eI .i64) x.Out)]
theorem aIe:∀x,aI (aKg x)=true:=λx=>by simp only[aKg,aI,AV.noRef,Bool.and_self,aE bA]
theorem aYo:∀x,aQ (aKg x)=true:=λx=>by simp only[aKg,aQ,AV.noBor,Bool.and_self,bN aDr]
theorem bIq:mS aKg aFp:=λx H r π j h=>(aB (bD (e:=3) rfl aX bI bG (h 0 _ rfl)) (aB (aF rfl) (aB (aF rfl) (aB (aF rfl) (aB (aF rfl) (aB (aF rfl) (aB (aF rfl) (aB (aF rfl) (aB (aF rfl) (aB (aF rfl) (aB (aF rfl) (aB (aF rfl) (aB (aF rfl) (aB (bD (e:=3) rfl aX bI bG (h 13 _ rfl)) (aB (bD (e:=3) rfl aX bI bG (h 14 _ rfl)) (aB (bD (e:=3) rfl aX bI bG (h 15 _ rfl)) cL))))))))))))))))
def aEn(x:Dl20Rd):List AV:=[.own 5 1 (List.length x.b) (fl (eI .u8) x.b),.int .i64 x.p]
theorem aDv:∀x,aI (aEn x)=true:=λx=>by simp only[aEn,aI,AV.noRef,Bool.and_self,aE bA]
theorem aUn:∀x,aQ (aEn x)=true:=λx=>by simp only[aEn,aQ,AV.noBor,Bool.and_self,bN aDr]
theorem bFf:mS aEn xK:=λx H r π j h=>(aB (bD (e:=5) rfl aX bI bG (h 0 _ rfl)) (aB (aF rfl) cL))
def aCu(x:DCore):List AV:=[.own 3 1 (List.length x.Regs) (fl (eI .i64) x.Regs),.int .i64 x.Pc,.int .i64 x.Root,.int .i64 x.Vector,.int .i64 x.Saved,.bool x.SavedUser,.int .i64 x.Cause,.int .i64 x.Bad,.int .i64 x.Timer,.bool x.Waits,.bool x.User,.bool x.On,.bool x.Stopped]
theorem aEo:∀x,aI (aCu x)=true:=λx=>by simp only[aCu,aI,AV.noRef,Bool.and_self,aE bA]
theorem aUj:∀x,aQ (aCu x)=true:=λx=>by simp only[aCu,aQ,AV.noBor,Bool.and_self,bN aDr]
theorem bHk:mS aCu aAe:=λx H r π j h=>(aB (bD (e:=3) rfl aX bI bG (h 0 _ rfl)) (aB (aF rfl) (aB (aF rfl) (aB (aF rfl) (aB (aF rfl) (aB (aF rfl) (aB (aF rfl) (aB (aF rfl) (aB (aF rfl) (aB (aF rfl) (aB (aF rfl) (aB (aF rfl) (aB (aF rfl) cL)))))))))))))
def aAd(x:DGuest):List AV:=[.bool x.Live,.own 3 1 (List.length x.C.Regs) (fl (eI .i64) x.C.Regs),.int .i64 x.C.Pc,.int .i64 x.C.Root,.int .i64 x.C.Vector,.int .i64 x.C.Saved,.bool x.C.SavedUser,.int .i64 x.C.Cause,.int .i64 x.C.Bad,.int .i64 x.C.Timer,.bool x.C.Waits,.bool x.C.User,.bool x.C.On,.bool x.C.Stopped,.own 153 3 (List.length x.Pages) (fl rL x.Pages),.own 3 1 (List.length x.In) (fl (eI .i64) x.In),.own 3 1 (List.length x.Out) (fl (eI .i64) x.Out)]
theorem yW:∀x,aI (aAd x)=true:=λx=>by simp only[aAd,aI,AV.noRef,Bool.and_self,aE bA,aE vB]
theorem aUc:∀x,aQ (aAd x)=true:=λx=>by simp only[aAd,aQ,AV.noBor,Bool.and_self,bN aDr,bN aKh]
theorem bGk:mS aAd cH:=λx H r π j h=>(aB (aF rfl) (aB (bD (e:=3) rfl aX bI bG (h 1 _ rfl)) (aB (aF rfl) (aB (aF rfl) (aB (aF rfl) (aB (aF rfl) (aB (aF rfl) (aB (aF rfl) (aB (aF rfl) (aB (aF rfl) (aB (aF rfl) (aB (aF rfl) (aB (aF rfl) (aB (aF rfl) (aB (bD (e:=153) rfl aPx aEj zF (h 14 _ rfl)) (aB (bD (e:=3) rfl aX bI bG (h 15 _ rfl)) (aB (bD (e:=3) rfl aX bI bG (h 16 _ rfl)) cL)))))))))))))))))
def bNx(x:DCore)(us:List AV):List AV:= .int .i64 x.Pc:: .int .i64 x.Root:: .int .i64 x.Vector:: .int .i64 x.Saved:: .bool x.SavedUser:: .int .i64 x.Cause:: .int .i64 x.Bad:: .int .i64 x.Timer:: .bool x.Waits:: .bool x.User:: .bool x.On:: .bool x.Stopped::us
def aDg(us:List AV):List AV:= .int .i64 (0:Int):: .int .i64 (0:Int):: .int .i64 (0:Int):: .int .i64 (0:Int):: .bool false:: .int .i64 (0:Int):: .int .i64 (0:Int):: .int .i64 (0:Int):: .bool false:: .bool false:: .bool false:: .bool false::us
def bNz(x:DShade)(us:List AV):List AV:= .bool x.There:: .bool x.Write:: .bool x.User:: .int .i64 x.Page:: .int .i64 x.Frame:: .bool x.Ready::us
def bNq(us:List AV):List AV:= .bool false:: .bool false:: .bool false:: .int .i64 (0:Int):: .int .i64 (0:Int):: .bool false::us
def bNf(x:DEntry)(us:List AV):List AV:= .bool x.There:: .bool x.Write:: .bool x.User:: .int .i64 x.Page::us
def bLo(us:List AV):List AV:= .bool false:: .bool false:: .bool false:: .int .i64 (0:Int)::us
def bNp(x:DCore)(us:List AV):List AV:= .int .i64 x.Pc:: .int .i64 x.Root:: .int .i64 x.Vector:: .int .i64 x.Saved:: .bool x.SavedUser:: .int .i64 x.Cause:: .int .i64 x.Bad:: .int .i64 x.Timer:: .bool x.Waits:: .bool x.User:: .bool x.On:: .bool x.Stopped::us
def bMp(us:List AV):List AV:= .int .i64 (0:Int):: .int .i64 (0:Int):: .int .i64 (0:Int):: .int .i64 (0:Int):: .bool false:: .int .i64 (0:Int):: .int .i64 (0:Int):: .int .i64 (0:Int):: .bool false:: .bool false:: .bool false:: .bool false::us
theorem rz{ρ:Nat->Option Nat}{n:Nat}{vs us:List AV}(h:Rens ρ n vs us:=by repeat first|exact nR|refine bMk ?_|refine bKm ?_|refine bH bIv ?_|refine bH (iK ?_) ?_|refine bH (aCz dd rfl) ?_|refine bH aFs ?_|refine bH (aSz dd rfl rfl) ?_|refine bH (cG (aM (aE lY))) ?_|refine bH (cG (aM (aE aEm))) ?_|refine bH (cG (aM (aE zU))) ?_|refine bH (cG (aM (aE aIh))) ?_|refine bH (cG (aM (aE aHr))) ?_|refine bH (cG (aM (aE aBt))) ?_|refine bH (cG (aM (aE aIa))) ?_|refine bH (cG (aM (aE aIf))) ?_|refine bH (cG (aM (aE aEa))) ?_|refine bH (cG (aM (aE vB))) ?_|refine bH (cG (aM (aE aDq))) ?_|refine bH (cG (aM (aE gE))) ?_|refine bH (cG (aM (aE aHt))) ?_|refine bH (cG (aM (aE aHq))) ?_|refine bH (cG (aM (aE aDv))) ?_|refine bH (cG (aM (aE aEo))) ?_|refine bH (cG (aM (aE yW))) ?_|refine bH (cG (aM (aE aHn))) ?_|refine bH (cG (aM (aE cQ))) ?_|refine bH (cG (aM (aE aIe))) ?_|refine bH (cG (aM (aE bA))) ?_|refine bH (cG (aM (aE bAb))) ?_):Rens ρ n vs us:=h
theorem cz{H:Heap}{vs us:List AV}(h:Clos H vs us:=by repeat first|exact cL|refine cs1 ?_|refine aB (aF (dD (aU aKj))) ?_|refine aB (aF (dD (aU aKa))) ?_|refine aB (aF (dD (aU vA))) ?_|refine aB (aF (dD (aU aOe))) ?_|refine aB (aF (dD (aU aOr))) ?_|refine aB (aF (dD (aU aHo))) ?_|refine aB (aF (dD (aU aOq))) ?_|refine aB (aF (dD (aU aOx))) ?_|refine aB (aF (dD (aU aLd))) ?_|refine aB (aF (dD (aU zF))) ?_|refine aB (aF (dD (aU aKd))) ?_|refine aB (aF (dD (aU aBw))) ?_|refine aB (aF (dD (aU aNy))) ?_|refine aB (aF (dD (aU aNl))) ?_|refine aB (aF (dD (aU bG))) ?_|refine aB (aF (dD (aU bAv))) ?_):Clos H vs us:=h
theorem nrr{p:Prop}(h:p:=by simp only[bNp,bNf,bNx,bNz,bMp,bLo,aDg,bNq,AV.noRef,aI,AV.noBor,aQ,Bool.and_self,aE lY,aE aEm,aE zU,aE aIh,aE aHr,aE aBt,aE aIa,aE aIf,aE aEa,aE vB,aE aDq,aE gE,aE aHt,aE aHq,aE aDv,aE aEo,aE yW,aE aHn,aE cQ,aE aIe,aE bA,aE bAb,lY,aEm,zU,aIh,aHr,aBt,aIa,aIf,aEa,vB,aDq,gE,aHt,aHq,aDv,aEo,yW,aHn,cQ,aIe,bN aVr,bN aKh,bN aUr,bN aNs,bN aXz,bN aXk,bN aUn,bN aUj,bN aUc,bN aYt,bN aXa,bN aYo,bN aDr,bN bNj,aVr,aKh,aUr,aNs,aXz,aXk,aUn,aUj,aUc,aYt,aXa,aYo]):p:=h
abbrev zc0:List AV:=[bb false,.nil,ii 0,ii 0,ii 0,ii 0,bb false,ii 0,ii 0,ii 0,bb false,bb false,bb false,bb false,.nil,.nil,.nil]
abbrev rI_3(x:List Int):Root:=⟨3,fl (eI .i64) x⟩
abbrev rC43(x:List DSlot):Root:=⟨43,fl kW x⟩
abbrev rO41(x:List DGuest):Root:=⟨41,fl bV x⟩
abbrev rB109(x:Dl20Rd):Root:=⟨109,xK x⟩
end Go.Proofs.Ytkjabgefacfpfaa
