/- The types of the plain functions. Made by program. -/
import Derived.Test.YtkjabgefacfpfaaGreatZY
import Derived.Test.YtkjabgefacfpfaaGreatProg
namespace Go.Proofs.YtkjabgefacfpfaaGreat
open Go.RowKit
set_option maxRecDepth 100000
set_option linter.all false
set_option maxHeartbeats 0
noncomputable def rg:=bZy Tryz.prog
abbrev LW(k:Nat)(L:LFun):Prop:=jL Tryz.prog k=some L
structure DCore where
 Regs:List Int
 Pc:Int
 Root:Int
 Vector:Int
 Saved:Int
 SavedUser:Bool
 Cause:Int
 Bad:Int
 Timer:Int
 Waits:Bool
 User:Bool
 On:Bool
 Stopped:Bool
deriving Inhabited
structure DSlot where
 Frame:Int
 Write:Bool
 Dirty:Bool
deriving Inhabited
structure DGuest where
 Live:Bool
 C:DCore
 Pages:List DSlot
 In:List Int
 Out:List Int
deriving Inhabited
structure DHost where
 Words:List Int
 Guests:List DGuest
deriving Inhabited
structure DBare where
 C:DCore
 Mem:List Int
 In:List Int
 Out:List Int
deriving Inhabited
structure DIns where
 Op:Int
 A:Int
 N:Int
deriving Inhabited
structure DShade where
 There:Bool
 Write:Bool
 User:Bool
 Page:Int
 Frame:Int
 Ready:Bool
deriving Inhabited
structure DLine where
 Tag:Int
 At:Int
 What:DShade
deriving Inhabited
structure Dl20Rd where
 b:List Int
 p:Int
deriving Inhabited
structure DExit where
 Why:Int
 Page:Int
 What:DIns
deriving Inhabited
structure DEntry where
 There:Bool
 Write:Bool
 User:Bool
 Page:Int
deriving Inhabited
def aKw(x:DBare):List AV:=[bo (eI .i64) x.C.Regs,.int .i64 x.C.Pc,.int .i64 x.C.Root,.int .i64 x.C.Vector,.int .i64 x.C.Saved,.bool x.C.SavedUser,.int .i64 x.C.Cause,.int .i64 x.C.Bad,.int .i64 x.C.Timer,.bool x.C.Waits,.bool x.C.User,.bool x.C.On,.bool x.C.Stopped,bo (eI .i64) x.Mem,bo (eI .i64) x.In,bo (eI .i64) x.Out]
theorem bDj:∀x,noOwn (aKw x)=true:=λ_=>rfl
theorem aTi:∀x,bB (aKw x)=true:=λx=>by simp only[aKw,bB,AV.clean,Bool.and_self,bE cN]
theorem aLy:∀x,aM (aKw x)=true:=λx=>by simp only[aKw,aM,AV.noRef,Bool.and_self,aB aY]
def aIp(x:DCore):List AV:=[bo (eI .i64) x.Regs,.int .i64 x.Pc,.int .i64 x.Root,.int .i64 x.Vector,.int .i64 x.Saved,.bool x.SavedUser,.int .i64 x.Cause,.int .i64 x.Bad,.int .i64 x.Timer,.bool x.Waits,.bool x.User,.bool x.On,.bool x.Stopped]
theorem bEh:∀x,noOwn (aIp x)=true:=λ_=>rfl
theorem aTj:∀x,bB (aIp x)=true:=λx=>by simp only[aIp,bB,AV.clean,Bool.and_self,bE cN]
theorem aLh:∀x,aM (aIp x)=true:=λx=>by simp only[aIp,aM,AV.noRef,Bool.and_self,aB aY]
def gL(x:DSlot):List AV:=[.int .i64 x.Frame,.bool x.Write,.bool x.Dirty]
theorem pY:∀x,(gL x).length=3:=λ_=>rfl
theorem aLr:∀x,noOwn (gL x)=true:=λ_=>rfl
theorem aDv:∀x,bB (gL x)=true:=λ_=>rfl
theorem oU:∀x,aM (gL x)=true:=λ_=>rfl
theorem aUd:∀x,aV (gL x)=true:=λ_=>rfl
def dO(x:DGuest):List AV:=[.bool x.Live,bo (eI .i64) x.C.Regs,.int .i64 x.C.Pc,.int .i64 x.C.Root,.int .i64 x.C.Vector,.int .i64 x.C.Saved,.bool x.C.SavedUser,.int .i64 x.C.Cause,.int .i64 x.C.Bad,.int .i64 x.C.Timer,.bool x.C.Waits,.bool x.C.User,.bool x.C.On,.bool x.C.Stopped,bo gL x.Pages,bo (eI .i64) x.In,bo (eI .i64) x.Out]
theorem aEw:∀x,(dO x).length=17:=λ_=>rfl
theorem bDa:∀x,noOwn (dO x)=true:=λ_=>rfl
theorem aLj:∀x,bB (dO x)=true:=λx=>by simp only[dO,bB,AV.clean,Bool.and_self,bE cN,bE aDv]
theorem aEr:∀x,aM (dO x)=true:=λx=>by simp only[dO,aM,AV.noRef,Bool.and_self,aB aY,aB oU]
def fH(x:DHost):List AV:=[bo (eI .i64) x.Words,bo dO x.Guests]
theorem bEw:∀x,noOwn (fH x)=true:=λ_=>rfl
theorem qX:∀x,bB (fH x)=true:=λx=>by simp only[fH,bB,AV.clean,Bool.and_self,bE cN,bE aLj]
theorem aLo:∀x,aM (fH x)=true:=λx=>by simp only[fH,aM,AV.noRef,Bool.and_self,aB aY,aB aEr]
def yZ(x:DSlot):List AV:=[.int .i64 x.Frame,.bool x.Write,.bool x.Dirty]
theorem aUr:∀x,(yZ x).length=3:=λ_=>rfl
theorem aFz:∀x,noOwn (yZ x)=true:=λ_=>rfl
theorem aAf:∀x,bB (yZ x)=true:=λ_=>rfl
theorem vN:∀x,aM (yZ x)=true:=λ_=>rfl
theorem aOx:∀x,aV (yZ x)=true:=λ_=>rfl
def zD(x:DGuest):List AV:=[.bool x.Live,bo (eI .i64) x.C.Regs,.int .i64 x.C.Pc,.int .i64 x.C.Root,.int .i64 x.C.Vector,.int .i64 x.C.Saved,.bool x.C.SavedUser,.int .i64 x.C.Cause,.int .i64 x.C.Bad,.int .i64 x.C.Timer,.bool x.C.Waits,.bool x.C.User,.bool x.C.On,.bool x.C.Stopped,bo yZ x.Pages,bo (eI .i64) x.In,bo (eI .i64) x.Out]
theorem bAt:∀x,noOwn (zD x)=true:=λ_=>rfl
theorem aGw:∀x,bB (zD x)=true:=λx=>by simp only[zD,bB,AV.clean,Bool.and_self,bE cN,bE aAf]
theorem aAn:∀x,aM (zD x)=true:=λx=>by simp only[zD,aM,AV.noRef,Bool.and_self,aB aY,aB vN]
def bK(x:DGuest):List AV:=[.bool x.Live,.own 3 1 (List.length x.C.Regs) (fl (eI .i64) x.C.Regs),.int .i64 x.C.Pc,.int .i64 x.C.Root,.int .i64 x.C.Vector,.int .i64 x.C.Saved,.bool x.C.SavedUser,.int .i64 x.C.Cause,.int .i64 x.C.Bad,.int .i64 x.C.Timer,.bool x.C.Waits,.bool x.C.User,.bool x.C.On,.bool x.C.Stopped,.own 53 3 (List.length x.Pages) (fl gL x.Pages),.own 3 1 (List.length x.In) (fl (eI .i64) x.In),.own 3 1 (List.length x.Out) (fl (eI .i64) x.Out)]
theorem aZ:∀x,(bK x).length=17:=λ_=>rfl
theorem cH:∀x,aM (bK x)=true:=λx=>by simp only[bK,aM,AV.noRef,Bool.and_self,aB aY,aB oU]
theorem bEl:∀x,aV (bK x)=true:=λx=>by simp only[bK,aV,AV.noBor,Bool.and_self,bS aGn,bS aUd]
theorem kK:nB bK dO:=λx H r π j h=>(aE (aD rfl) (aE (cJ (e:=3) rfl bH cE cN (h 1 _ rfl)) (aE (aD rfl) (aE (aD rfl) (aE (aD rfl) (aE (aD rfl) (aE (aD rfl) (aE (aD rfl) (aE (aD rfl) (aE (aD rfl) (aE (aD rfl) (aE (aD rfl) (aE (aD rfl) (aE (aD rfl) (aE (cJ (e:=53) rfl pY aLr aDv (h 14 _ rfl)) (aE (cJ (e:=3) rfl bH cE cN (h 15 _ rfl)) (aE (cJ (e:=3) rfl bH cE cN (h 16 _ rfl)) fT)))))))))))))))))
def pH(x:DShade):List AV:=[.bool x.There,.bool x.Write,.bool x.User,.int .i64 x.Page,.int .i64 x.Frame,.bool x.Ready]
theorem aJo:∀x,(pH x).length=6:=λ_=>rfl
theorem aFk:∀x,noOwn (pH x)=true:=λ_=>rfl
theorem aAg:∀x,bB (pH x)=true:=λ_=>rfl
theorem qO:∀x,aM (pH x)=true:=λ_=>rfl
theorem bAe:∀x,aV (pH x)=true:=λ_=>rfl
def aLv(x:DEntry):List AV:=[.bool x.There,.bool x.Write,.bool x.User,.int .i64 x.Page]
theorem aZj:∀x,noOwn (aLv x)=true:=λ_=>rfl
theorem aNv:∀x,bB (aLv x)=true:=λ_=>rfl
theorem aHm:∀x,aM (aLv x)=true:=λ_=>rfl
theorem aZo:∀x,aV (aLv x)=true:=λ_=>rfl
def dX(x:DIns):List AV:=[.int .i64 x.Op,.int .i64 x.A,.int .i64 x.N]
theorem bEr:∀x,noOwn (dX x)=true:=λ_=>rfl
theorem aTl:∀x,bB (dX x)=true:=λ_=>rfl
theorem sA:∀x,aM (dX x)=true:=λ_=>rfl
theorem bEb:∀x,aV (dX x)=true:=λ_=>rfl
def aLl(x:DExit):List AV:=[.int .i64 x.Why,.int .i64 x.Page,.int .i64 x.What.Op,.int .i64 x.What.A,.int .i64 x.What.N]
theorem bBa:∀x,noOwn (aLl x)=true:=λ_=>rfl
theorem aPc:∀x,bB (aLl x)=true:=λ_=>rfl
theorem aFn:∀x,aM (aLl x)=true:=λ_=>rfl
theorem aZq:∀x,aV (aLl x)=true:=λ_=>rfl
def aLw(x:DLine):List AV:=[.int .i64 x.Tag,.int .i64 x.At,.bool x.What.There,.bool x.What.Write,.bool x.What.User,.int .i64 x.What.Page,.int .i64 x.What.Frame,.bool x.What.Ready]
theorem aWt:∀x,noOwn (aLw x)=true:=λ_=>rfl
theorem aOj:∀x,bB (aLw x)=true:=λ_=>rfl
theorem aHk:∀x,aM (aLw x)=true:=λ_=>rfl
theorem bBg:∀x,aV (aLw x)=true:=λ_=>rfl
def zA(x:Dl20Rd):List AV:=[bo (eI .u8) x.b,.int .i64 x.p]
theorem aXr:∀x,noOwn (zA x)=true:=λ_=>rfl
theorem aNx:∀x,bB (zA x)=true:=λx=>by simp only[zA,bB,AV.clean,Bool.and_self,bE cN]
theorem cV:∀x,aM (zA x)=true:=λx=>by simp only[zA,aM,AV.noRef,Bool.and_self,aB aY]
def aPh(x:DHost):List AV:=[bo (eI .i64) x.Words,bo zD x.Guests]
theorem bCq:∀x,noOwn (aPh x)=true:=λ_=>rfl
theorem aUc:∀x,bB (aPh x)=true:=λx=>by simp only[aPh,bB,AV.clean,Bool.and_self,bE cN,bE aGw]
theorem aLx:∀x,aM (aPh x)=true:=λx=>by simp only[aPh,aM,AV.noRef,Bool.and_self,aB aY,aB aAn]
def aBt(x:DCore):List AV:=[bo (eI .i64) x.Regs,.int .i64 x.Pc,.int .i64 x.Root,.int .i64 x.Vector,.int .i64 x.Saved,.bool x.SavedUser,.int .i64 x.Cause,.int .i64 x.Bad,.int .i64 x.Timer,.bool x.Waits,.bool x.User,.bool x.On,.bool x.Stopped]
theorem aWx:∀x,noOwn (aBt x)=true:=λ_=>rfl
theorem aOg:∀x,bB (aBt x)=true:=λx=>by simp only[aBt,bB,AV.clean,Bool.and_self,bE cN]
theorem aGg:∀x,aM (aBt x)=true:=λx=>by simp only[aBt,aM,AV.noRef,Bool.and_self,aB aY]
def aOr(x:DCore):List AV:=[.own 3 1 (List.length x.Regs) (fl (eI .i64) x.Regs),.int .i64 x.Pc,.int .i64 x.Root,.int .i64 x.Vector,.int .i64 x.Saved,.bool x.SavedUser,.int .i64 x.Cause,.int .i64 x.Bad,.int .i64 x.Timer,.bool x.Waits,.bool x.User,.bool x.On,.bool x.Stopped]
theorem aLq:∀x,aM (aOr x)=true:=λx=>by simp only[aOr,aM,AV.noRef,Bool.and_self,aB aY]
theorem bDo:∀x,aV (aOr x)=true:=λx=>by simp only[aOr,aV,AV.noBor,Bool.and_self,bS aGn]
theorem bRw:nB aOr aIp:=λx H r π j h=>(aE (cJ (e:=3) rfl bH cE cN (h 0 _ rfl)) (aE (aD rfl) (aE (aD rfl) (aE (aD rfl) (aE (aD rfl) (aE (aD rfl) (aE (aD rfl) (aE (aD rfl) (aE (aD rfl) (aE (aD rfl) (aE (aD rfl) (aE (aD rfl) (aE (aD rfl) fT)))))))))))))
def aPa(x:DBare):List AV:=[.own 3 1 (List.length x.C.Regs) (fl (eI .i64) x.C.Regs),.int .i64 x.C.Pc,.int .i64 x.C.Root,.int .i64 x.C.Vector,.int .i64 x.C.Saved,.bool x.C.SavedUser,.int .i64 x.C.Cause,.int .i64 x.C.Bad,.int .i64 x.C.Timer,.bool x.C.Waits,.bool x.C.User,.bool x.C.On,.bool x.C.Stopped,.own 3 1 (List.length x.Mem) (fl (eI .i64) x.Mem),.own 3 1 (List.length x.In) (fl (eI .i64) x.In),.own 3 1 (List.length x.Out) (fl (eI .i64) x.Out)]
theorem aLe:∀x,aM (aPa x)=true:=λx=>by simp only[aPa,aM,AV.noRef,Bool.and_self,aB aY]
theorem bEe:∀x,aV (aPa x)=true:=λx=>by simp only[aPa,aV,AV.noBor,Bool.and_self,bS aGn]
theorem bRs:nB aPa aKw:=λx H r π j h=>(aE (cJ (e:=3) rfl bH cE cN (h 0 _ rfl)) (aE (aD rfl) (aE (aD rfl) (aE (aD rfl) (aE (aD rfl) (aE (aD rfl) (aE (aD rfl) (aE (aD rfl) (aE (aD rfl) (aE (aD rfl) (aE (aD rfl) (aE (aD rfl) (aE (aD rfl) (aE (cJ (e:=3) rfl bH cE cN (h 13 _ rfl)) (aE (cJ (e:=3) rfl bH cE cN (h 14 _ rfl)) (aE (cJ (e:=3) rfl bH cE cN (h 15 _ rfl)) fT))))))))))))))))
def aFe(x:Dl20Rd):List AV:=[.own 5 1 (List.length x.b) (fl (eI .u8) x.b),.int .i64 x.p]
theorem aHd:∀x,aM (aFe x)=true:=λx=>by simp only[aFe,aM,AV.noRef,Bool.and_self,aB aY]
theorem aWv:∀x,aV (aFe x)=true:=λx=>by simp only[aFe,aV,AV.noBor,Bool.and_self,bS aGn]
theorem bOa:nB aFe zA:=λx H r π j h=>(aE (cJ (e:=5) rfl bH cE cN (h 0 _ rfl)) (aE (aD rfl) fT))
def aHg(x:DCore):List AV:=[.own 3 1 (List.length x.Regs) (fl (eI .i64) x.Regs),.int .i64 x.Pc,.int .i64 x.Root,.int .i64 x.Vector,.int .i64 x.Saved,.bool x.SavedUser,.int .i64 x.Cause,.int .i64 x.Bad,.int .i64 x.Timer,.bool x.Waits,.bool x.User,.bool x.On,.bool x.Stopped]
theorem aGs:∀x,aM (aHg x)=true:=λx=>by simp only[aHg,aM,AV.noRef,Bool.and_self,aB aY]
theorem bBi:∀x,aV (aHg x)=true:=λx=>by simp only[aHg,aV,AV.noBor,Bool.and_self,bS aGn]
theorem bMv:nB aHg aBt:=λx H r π j h=>(aE (cJ (e:=3) rfl bH cE cN (h 0 _ rfl)) (aE (aD rfl) (aE (aD rfl) (aE (aD rfl) (aE (aD rfl) (aE (aD rfl) (aE (aD rfl) (aE (aD rfl) (aE (aD rfl) (aE (aD rfl) (aE (aD rfl) (aE (aD rfl) (aE (aD rfl) fT)))))))))))))
def aCj(x:DGuest):List AV:=[.bool x.Live,.own 3 1 (List.length x.C.Regs) (fl (eI .i64) x.C.Regs),.int .i64 x.C.Pc,.int .i64 x.C.Root,.int .i64 x.C.Vector,.int .i64 x.C.Saved,.bool x.C.SavedUser,.int .i64 x.C.Cause,.int .i64 x.C.Bad,.int .i64 x.C.Timer,.bool x.C.Waits,.bool x.C.User,.bool x.C.On,.bool x.C.Stopped,.own 184 3 (List.length x.Pages) (fl yZ x.Pages),.own 3 1 (List.length x.In) (fl (eI .i64) x.In),.own 3 1 (List.length x.Out) (fl (eI .i64) x.Out)]
theorem aAb:∀x,aM (aCj x)=true:=λx=>by simp only[aCj,aM,AV.noRef,Bool.and_self,aB aY,aB vN]
theorem aYg:∀x,aV (aCj x)=true:=λx=>by simp only[aCj,aV,AV.noBor,Bool.and_self,bS aGn,bS aOx]
theorem bPf:nB aCj zD:=λx H r π j h=>(aE (aD rfl) (aE (cJ (e:=3) rfl bH cE cN (h 1 _ rfl)) (aE (aD rfl) (aE (aD rfl) (aE (aD rfl) (aE (aD rfl) (aE (aD rfl) (aE (aD rfl) (aE (aD rfl) (aE (aD rfl) (aE (aD rfl) (aE (aD rfl) (aE (aD rfl) (aE (aD rfl) (aE (cJ (e:=184) rfl aUr aFz aAf (h 14 _ rfl)) (aE (cJ (e:=3) rfl bH cE cN (h 15 _ rfl)) (aE (cJ (e:=3) rfl bH cE cN (h 16 _ rfl)) fT)))))))))))))))))
def cO(x:DCore)(us:List AV):List AV:= .int .i64 x.Pc:: .int .i64 x.Root:: .int .i64 x.Vector:: .int .i64 x.Saved:: .bool x.SavedUser:: .int .i64 x.Cause:: .int .i64 x.Bad:: .int .i64 x.Timer:: .bool x.Waits:: .bool x.User:: .bool x.On:: .bool x.Stopped::us
def aGd(us:List AV):List AV:= .int .i64 (0:Int):: .int .i64 (0:Int):: .int .i64 (0:Int):: .int .i64 (0:Int):: .bool false:: .int .i64 (0:Int):: .int .i64 (0:Int):: .int .i64 (0:Int):: .bool false:: .bool false:: .bool false:: .bool false::us
def bYf(x:DShade)(us:List AV):List AV:= .bool x.There:: .bool x.Write:: .bool x.User:: .int .i64 x.Page:: .int .i64 x.Frame:: .bool x.Ready::us
def bVu(us:List AV):List AV:= .bool false:: .bool false:: .bool false:: .int .i64 (0:Int):: .int .i64 (0:Int):: .bool false::us
def bYj(x:DEntry)(us:List AV):List AV:= .bool x.There:: .bool x.Write:: .bool x.User:: .int .i64 x.Page::us
def bTu(us:List AV):List AV:= .bool false:: .bool false:: .bool false:: .int .i64 (0:Int)::us
def bYc(x:DCore)(us:List AV):List AV:= .int .i64 x.Pc:: .int .i64 x.Root:: .int .i64 x.Vector:: .int .i64 x.Saved:: .bool x.SavedUser:: .int .i64 x.Cause:: .int .i64 x.Bad:: .int .i64 x.Timer:: .bool x.Waits:: .bool x.User:: .bool x.On:: .bool x.Stopped::us
def bWx(us:List AV):List AV:= .int .i64 (0:Int):: .int .i64 (0:Int):: .int .i64 (0:Int):: .int .i64 (0:Int):: .bool false:: .int .i64 (0:Int):: .int .i64 (0:Int):: .int .i64 (0:Int):: .bool false:: .bool false:: .bool false:: .bool false::us
theorem rz{ρ:Nat->Option Nat}{n:Nat}{vs us:List AV}(h:Rens ρ n vs us:=by repeat first|exact oG|refine bWt ?_|refine bUg ?_|refine bG bSw ?_|refine bG (eY ?_) ?_|refine bG (aCn dd rfl) ?_|refine bG aBa ?_|refine bG (aXd dd rfl rfl) ?_|refine bG (cI (aG (aB cV))) ?_|refine bG (cI (aG (aB aGg))) ?_|refine bG (cI (aG (aB aAn))) ?_|refine bG (cI (aG (aB aLo))) ?_|refine bG (cI (aG (aB aLh))) ?_|refine bG (cI (aG (aB aEr))) ?_|refine bG (cI (aG (aB aLy))) ?_|refine bG (cI (aG (aB aLx))) ?_|refine bG (cI (aG (aB qO))) ?_|refine bG (cI (aG (aB aHk))) ?_|refine bG (cI (aG (aB aFn))) ?_|refine bG (cI (aG (aB aHm))) ?_|refine bG (cI (aG (aB vN))) ?_|refine bG (cI (aG (aB oU))) ?_|refine bG (cI (aG (aB sA))) ?_|refine bG (cI (aG (aB aHd))) ?_|refine bG (cI (aG (aB aGs))) ?_|refine bG (cI (aG (aB aAb))) ?_|refine bG (cI (aG (aB aLq))) ?_|refine bG (cI (aG (aB cH))) ?_|refine bG (cI (aG (aB aLe))) ?_|refine bG (cI (aG (aB aY))) ?_|refine bG (cI (aG (aB bGc))) ?_):Rens ρ n vs us:=h
theorem cz{H:Heap}{vs us:List AV}(h:Clos H vs us:=by repeat first|exact fT|refine cs1 ?_|refine aE (aD (cY (bE aNx))) ?_|refine aE (aD (cY (bE aOg))) ?_|refine aE (aD (cY (bE aGw))) ?_|refine aE (aD (cY (bE qX))) ?_|refine aE (aD (cY (bE aTj))) ?_|refine aE (aD (cY (bE aLj))) ?_|refine aE (aD (cY (bE aTi))) ?_|refine aE (aD (cY (bE aUc))) ?_|refine aE (aD (cY (bE aAg))) ?_|refine aE (aD (cY (bE aOj))) ?_|refine aE (aD (cY (bE aPc))) ?_|refine aE (aD (cY (bE aNv))) ?_|refine aE (aD (cY (bE aAf))) ?_|refine aE (aD (cY (bE aDv))) ?_|refine aE (aD (cY (bE aTl))) ?_|refine aE (aD (cY (bE cN))) ?_|refine aE (aD (cY (bE bHo))) ?_):Clos H vs us:=h
theorem nrr{p:Prop}(h:p:=by simp only[bYf,bYj,bYc,cO,bVu,bTu,bWx,aGd,AV.noRef,aM,AV.noBor,aV,Bool.and_self,aB cV,aB aGg,aB aAn,aB aLo,aB aLh,aB aEr,aB aLy,aB aLx,aB qO,aB aHk,aB aFn,aB aHm,aB vN,aB oU,aB sA,aB aHd,aB aGs,aB aAb,aB aLq,aB cH,aB aLe,aB aY,aB bGc,cV,aGg,aAn,aLo,aLh,aEr,aLy,aLx,qO,aHk,aFn,aHm,vN,oU,sA,aHd,aGs,aAb,aLq,cH,aLe,bS bAe,bS bBg,bS aZq,bS aZo,bS aOx,bS aUd,bS bEb,bS aWv,bS bBi,bS aYg,bS bDo,bS bEl,bS bEe,bS aGn,bS bXt,bAe,bBg,aZq,aZo,aOx,aUd,bEb,aWv,bBi,aYg,bDo,bEl,bEe]):p:=h
abbrev zc0:List AV:=[bb false,.nil,ii 0,ii 0,ii 0,ii 0,bb false,ii 0,ii 0,ii 0,bb false,bb false,bb false,bb false,.nil,.nil,.nil]
abbrev rI_3(x:List Int):Root:=⟨3,fl (eI .i64) x⟩
abbrev rO38(x:List DGuest):Root:=⟨38,fl bK x⟩
abbrev rB26(x:DHost):Root:=⟨26,fH x⟩
abbrev rC103(x:List DShade):Root:=⟨103,fl pH x⟩
abbrev rB118(x:Dl20Rd):Root:=⟨118,zA x⟩
end Go.Proofs.YtkjabgefacfpfaaGreat
