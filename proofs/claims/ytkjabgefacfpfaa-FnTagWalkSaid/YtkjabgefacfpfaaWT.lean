/- The types of the plain functions. Made by program. -/
import Derived.Test.YtkjabgefacfpfaaZY
import Derived.Test.YtkjabgefacfpfaaProg
namespace Go.Proofs.Ytkjabgefacfpfaa
open Go.RowKit
set_option maxRecDepth 100000
set_option linter.all false
set_option maxHeartbeats 0
noncomputable def rg:=bGt Try.prog
abbrev LW(k:Nat)(L:LFun):Prop:=fF Try.prog k=some L
structure DCore where
 Regs:List Int
 Pc:Int
 Root:Int
 Vector:Int
 Saved:Int
 SavedUser:Bool
 Cause:Int
 Bad:Int
 Timer:Int
 Waits:Bool
 User:Bool
 On:Bool
 Stopped:Bool
deriving Inhabited
structure DSlot where
 Frame:Int
 Write:Bool
 Dirty:Bool
deriving Inhabited
structure DGuest where
 Live:Bool
 C:DCore
 Pages:List DSlot
 In:List Int
 Out:List Int
deriving Inhabited
structure DHost where
 Words:List Int
 Guests:List DGuest
deriving Inhabited
structure DShade where
 There:Bool
 Write:Bool
 User:Bool
 Page:Int
 Frame:Int
 Ready:Bool
deriving Inhabited
structure DLine where
 Tag:Int
 At:Int
 What:DShade
deriving Inhabited
structure DBare where
 C:DCore
 Mem:List Int
 In:List Int
 Out:List Int
deriving Inhabited
structure Dl20Rd where
 b:List Int
 p:Int
deriving Inhabited
structure DEntry where
 There:Bool
 Write:Bool
 User:Bool
 Page:Int
deriving Inhabited
structure DIns where
 Op:Int
 A:Int
 N:Int
deriving Inhabited
def zO(x:DBare):List AV:=[bo (eI .i64) x.C.Regs,.int .i64 x.C.Pc,.int .i64 x.C.Root,.int .i64 x.C.Vector,.int .i64 x.C.Saved,.bool x.C.SavedUser,.int .i64 x.C.Cause,.int .i64 x.C.Bad,.int .i64 x.C.Timer,.bool x.C.Waits,.bool x.C.User,.bool x.C.On,.bool x.C.Stopped,bo (eI .i64) x.Mem,bo (eI .i64) x.In,bo (eI .i64) x.Out]
theorem aQx:∀x,noOwn (zO x)=true:=λ_=>rfl
theorem aOj:∀x,aT (zO x)=true:=λx=>by simp only[zO,aT,AV.clean,Bool.and_self,cD dC]
theorem aBn:∀x,aG (zO x)=true:=λx=>by simp only[zO,aG,AV.noRef,Bool.and_self,aB bX]
def zW(x:DCore):List AV:=[bo (eI .i64) x.Regs,.int .i64 x.Pc,.int .i64 x.Root,.int .i64 x.Vector,.int .i64 x.Saved,.bool x.SavedUser,.int .i64 x.Cause,.int .i64 x.Bad,.int .i64 x.Timer,.bool x.Waits,.bool x.User,.bool x.On,.bool x.Stopped]
theorem aQs:∀x,noOwn (zW x)=true:=λ_=>rfl
theorem aQe:∀x,aT (zW x)=true:=λx=>by simp only[zW,aT,AV.clean,Bool.and_self,cD dC]
theorem aBc:∀x,aG (zW x)=true:=λx=>by simp only[zW,aG,AV.noRef,Bool.and_self,aB bX]
def mI(x:DSlot):List AV:=[.int .i64 x.Frame,.bool x.Write,.bool x.Dirty]
theorem wJ:∀x,(mI x).length=3:=λ_=>rfl
theorem aAy:∀x,noOwn (mI x)=true:=λ_=>rfl
theorem aBh:∀x,aT (mI x)=true:=λ_=>rfl
theorem jY:∀x,aG (mI x)=true:=λ_=>rfl
theorem aGp:∀x,aO (mI x)=true:=λ_=>rfl
def xL(x:DGuest):List AV:=[.bool x.Live,bo (eI .i64) x.C.Regs,.int .i64 x.C.Pc,.int .i64 x.C.Root,.int .i64 x.C.Vector,.int .i64 x.C.Saved,.bool x.C.SavedUser,.int .i64 x.C.Cause,.int .i64 x.C.Bad,.int .i64 x.C.Timer,.bool x.C.Waits,.bool x.C.User,.bool x.C.On,.bool x.C.Stopped,bo mI x.Pages,bo (eI .i64) x.In,bo (eI .i64) x.Out]
theorem aRa:∀x,noOwn (xL x)=true:=λ_=>rfl
theorem aHf:∀x,aT (xL x)=true:=λx=>by simp only[xL,aT,AV.clean,Bool.and_self,cD dC,cD aBh]
theorem vP:∀x,aG (xL x)=true:=λx=>by simp only[xL,aG,AV.noRef,Bool.and_self,aB bX,aB jY]
def aEl(x:DHost):List AV:=[bo (eI .i64) x.Words,bo xL x.Guests]
theorem aOg:∀x,noOwn (aEl x)=true:=λ_=>rfl
theorem aPx:∀x,aT (aEl x)=true:=λx=>by simp only[aEl,aT,AV.clean,Bool.and_self,cD dC,cD aHf]
theorem aBg:∀x,aG (aEl x)=true:=λx=>by simp only[aEl,aG,AV.noRef,Bool.and_self,aB bX,aB vP]
def sD(x:DSlot):List AV:=[.int .i64 x.Frame,.bool x.Write,.bool x.Dirty]
theorem aIm:∀x,(sD x).length=3:=λ_=>rfl
theorem yC:∀x,noOwn (sD x)=true:=λ_=>rfl
theorem wQ:∀x,aT (sD x)=true:=λ_=>rfl
theorem pL:∀x,aG (sD x)=true:=λ_=>rfl
theorem aEc:∀x,aO (sD x)=true:=λ_=>rfl
def sA(x:DGuest):List AV:=[.bool x.Live,bo (eI .i64) x.C.Regs,.int .i64 x.C.Pc,.int .i64 x.C.Root,.int .i64 x.C.Vector,.int .i64 x.C.Saved,.bool x.C.SavedUser,.int .i64 x.C.Cause,.int .i64 x.C.Bad,.int .i64 x.C.Timer,.bool x.C.Waits,.bool x.C.User,.bool x.C.On,.bool x.C.Stopped,bo sD x.Pages,bo (eI .i64) x.In,bo (eI .i64) x.Out]
theorem aMe:∀x,noOwn (sA x)=true:=λ_=>rfl
theorem aCw:∀x,aT (sA x)=true:=λx=>by simp only[sA,aT,AV.clean,Bool.and_self,cD dC,cD wQ]
theorem tQ:∀x,aG (sA x)=true:=λx=>by simp only[sA,aG,AV.noRef,Bool.and_self,aB bX,aB pL]
def rG(x:DGuest):List AV:=[.bool x.Live,.own 3 1 (List.length x.C.Regs) (fl (eI .i64) x.C.Regs),.int .i64 x.C.Pc,.int .i64 x.C.Root,.int .i64 x.C.Vector,.int .i64 x.C.Saved,.bool x.C.SavedUser,.int .i64 x.C.Cause,.int .i64 x.C.Bad,.int .i64 x.C.Timer,.bool x.C.Waits,.bool x.C.User,.bool x.C.On,.bool x.C.Stopped,.own 43 3 (List.length x.Pages) (fl mI x.Pages),.own 3 1 (List.length x.In) (fl (eI .i64) x.In),.own 3 1 (List.length x.Out) (fl (eI .i64) x.Out)]
theorem pQ:∀x,aG (rG x)=true:=λx=>by simp only[rG,aG,AV.noRef,Bool.and_self,aB bX,aB jY]
theorem aOx:∀x,aO (rG x)=true:=λx=>by simp only[rG,aO,AV.noBor,Bool.and_self,bD xQ,bD aGp]
theorem bBp:iN rG xL:=λx H r π j h=>(aI (aD rfl) (aI (dS (e:=3) rfl cC cN dC (h 1 _ rfl)) (aI (aD rfl) (aI (aD rfl) (aI (aD rfl) (aI (aD rfl) (aI (aD rfl) (aI (aD rfl) (aI (aD rfl) (aI (aD rfl) (aI (aD rfl) (aI (aD rfl) (aI (aD rfl) (aI (aD rfl) (aI (dS (e:=43) rfl wJ aAy aBh (h 14 _ rfl)) (aI (dS (e:=3) rfl cC cN dC (h 15 _ rfl)) (aI (dS (e:=3) rfl cC cN dC (h 16 _ rfl)) vO)))))))))))))))))
def aGw(x:DShade):List AV:=[.bool x.There,.bool x.Write,.bool x.User,.int .i64 x.Page,.int .i64 x.Frame,.bool x.Ready]
theorem aPe:∀x,noOwn (aGw x)=true:=λ_=>rfl
theorem aOk:∀x,aT (aGw x)=true:=λ_=>rfl
theorem aBj:∀x,aG (aGw x)=true:=λ_=>rfl
theorem aPp:∀x,aO (aGw x)=true:=λ_=>rfl
def aBf(x:DEntry):List AV:=[.bool x.There,.bool x.Write,.bool x.User,.int .i64 x.Page]
theorem aNo:∀x,noOwn (aBf x)=true:=λ_=>rfl
theorem aLs:∀x,aT (aBf x)=true:=λ_=>rfl
theorem wW:∀x,aG (aBf x)=true:=λ_=>rfl
theorem aKj:∀x,aO (aBf x)=true:=λ_=>rfl
def aBp(x:DIns):List AV:=[.int .i64 x.Op,.int .i64 x.A,.int .i64 x.N]
theorem aKp:∀x,noOwn (aBp x)=true:=λ_=>rfl
theorem aMc:∀x,aT (aBp x)=true:=λ_=>rfl
theorem xE:∀x,aG (aBp x)=true:=λ_=>rfl
theorem aKw:∀x,aO (aBp x)=true:=λ_=>rfl
def aHi(x:DLine):List AV:=[.int .i64 x.Tag,.int .i64 x.At,.bool x.What.There,.bool x.What.Write,.bool x.What.User,.int .i64 x.What.Page,.int .i64 x.What.Frame,.bool x.What.Ready]
theorem aPn:∀x,noOwn (aHi x)=true:=λ_=>rfl
theorem aOv:∀x,aT (aHi x)=true:=λ_=>rfl
theorem aBl:∀x,aG (aHi x)=true:=λ_=>rfl
theorem aOs:∀x,aO (aHi x)=true:=λ_=>rfl
def uH(x:Dl20Rd):List AV:=[bo (eI .u8) x.b,.int .i64 x.p]
theorem aKu:∀x,noOwn (uH x)=true:=λ_=>rfl
theorem aKg:∀x,aT (uH x)=true:=λx=>by simp only[uH,aT,AV.clean,Bool.and_self,cD dC]
theorem xA:∀x,aG (uH x)=true:=λx=>by simp only[uH,aG,AV.noRef,Bool.and_self,aB bX]
def aDi(x:DHost):List AV:=[bo (eI .i64) x.Words,bo sA x.Guests]
theorem aPy:∀x,noOwn (aDi x)=true:=λ_=>rfl
theorem aQq:∀x,aT (aDi x)=true:=λx=>by simp only[aDi,aT,AV.clean,Bool.and_self,cD dC,cD aCw]
theorem aBa:∀x,aG (aDi x)=true:=λx=>by simp only[aDi,aG,AV.noRef,Bool.and_self,aB bX,aB tQ]
def uE(x:DCore):List AV:=[bo (eI .i64) x.Regs,.int .i64 x.Pc,.int .i64 x.Root,.int .i64 x.Vector,.int .i64 x.Saved,.bool x.SavedUser,.int .i64 x.Cause,.int .i64 x.Bad,.int .i64 x.Timer,.bool x.Waits,.bool x.User,.bool x.On,.bool x.Stopped]
theorem aLi:∀x,noOwn (uE x)=true:=λ_=>rfl
theorem aKc:∀x,aT (uE x)=true:=λx=>by simp only[uE,aT,AV.clean,Bool.and_self,cD dC]
theorem xF:∀x,aG (uE x)=true:=λx=>by simp only[uE,aG,AV.noRef,Bool.and_self,aB bX]
def aEm(x:DCore):List AV:=[.own 3 1 (List.length x.Regs) (fl (eI .i64) x.Regs),.int .i64 x.Pc,.int .i64 x.Root,.int .i64 x.Vector,.int .i64 x.Saved,.bool x.SavedUser,.int .i64 x.Cause,.int .i64 x.Bad,.int .i64 x.Timer,.bool x.Waits,.bool x.User,.bool x.On,.bool x.Stopped]
theorem aAx:∀x,aG (aEm x)=true:=λx=>by simp only[aEm,aG,AV.noRef,Bool.and_self,aB bX]
theorem aQy:∀x,aO (aEm x)=true:=λx=>by simp only[aEm,aO,AV.noBor,Bool.and_self,bD xQ]
theorem bAl:iN aEm zW:=λx H r π j h=>(aI (dS (e:=3) rfl cC cN dC (h 0 _ rfl)) (aI (aD rfl) (aI (aD rfl) (aI (aD rfl) (aI (aD rfl) (aI (aD rfl) (aI (aD rfl) (aI (aD rfl) (aI (aD rfl) (aI (aD rfl) (aI (aD rfl) (aI (aD rfl) (aI (aD rfl) vO)))))))))))))
def aEj(x:DBare):List AV:=[.own 3 1 (List.length x.C.Regs) (fl (eI .i64) x.C.Regs),.int .i64 x.C.Pc,.int .i64 x.C.Root,.int .i64 x.C.Vector,.int .i64 x.C.Saved,.bool x.C.SavedUser,.int .i64 x.C.Cause,.int .i64 x.C.Bad,.int .i64 x.C.Timer,.bool x.C.Waits,.bool x.C.User,.bool x.C.On,.bool x.C.Stopped,.own 3 1 (List.length x.Mem) (fl (eI .i64) x.Mem),.own 3 1 (List.length x.In) (fl (eI .i64) x.In),.own 3 1 (List.length x.Out) (fl (eI .i64) x.Out)]
theorem aAz:∀x,aG (aEj x)=true:=λx=>by simp only[aEj,aG,AV.noRef,Bool.and_self,aB bX]
theorem aPi:∀x,aO (aEj x)=true:=λx=>by simp only[aEj,aO,AV.noBor,Bool.and_self,bD xQ]
theorem bAk:iN aEj zO:=λx H r π j h=>(aI (dS (e:=3) rfl cC cN dC (h 0 _ rfl)) (aI (aD rfl) (aI (aD rfl) (aI (aD rfl) (aI (aD rfl) (aI (aD rfl) (aI (aD rfl) (aI (aD rfl) (aI (aD rfl) (aI (aD rfl) (aI (aD rfl) (aI (aD rfl) (aI (aD rfl) (aI (dS (e:=3) rfl cC cN dC (h 13 _ rfl)) (aI (dS (e:=3) rfl cC cN dC (h 14 _ rfl)) (aI (dS (e:=3) rfl cC cN dC (h 15 _ rfl)) vO))))))))))))))))
def xT(x:Dl20Rd):List AV:=[.own 5 1 (List.length x.b) (fl (eI .u8) x.b),.int .i64 x.p]
theorem wS:∀x,aG (xT x)=true:=λx=>by simp only[xT,aG,AV.noRef,Bool.and_self,aB bX]
theorem aNp:∀x,aO (xT x)=true:=λx=>by simp only[xT,aO,AV.noBor,Bool.and_self,bD xQ]
theorem aXd:iN xT uH:=λx H r π j h=>(aI (dS (e:=5) rfl cC cN dC (h 0 _ rfl)) (aI (aD rfl) vO))
def wP(x:DCore):List AV:=[.own 3 1 (List.length x.Regs) (fl (eI .i64) x.Regs),.int .i64 x.Pc,.int .i64 x.Root,.int .i64 x.Vector,.int .i64 x.Saved,.bool x.SavedUser,.int .i64 x.Cause,.int .i64 x.Bad,.int .i64 x.Timer,.bool x.Waits,.bool x.User,.bool x.On,.bool x.Stopped]
theorem xD:∀x,aG (wP x)=true:=λx=>by simp only[wP,aG,AV.noRef,Bool.and_self,aB bX]
theorem aJs:∀x,aO (wP x)=true:=λx=>by simp only[wP,aO,AV.noBor,Bool.and_self,bD xQ]
theorem aYr:iN wP uE:=λx H r π j h=>(aI (dS (e:=3) rfl cC cN dC (h 0 _ rfl)) (aI (aD rfl) (aI (aD rfl) (aI (aD rfl) (aI (aD rfl) (aI (aD rfl) (aI (aD rfl) (aI (aD rfl) (aI (aD rfl) (aI (aD rfl) (aI (aD rfl) (aI (aD rfl) (aI (aD rfl) vO)))))))))))))
def uC(x:DGuest):List AV:=[.bool x.Live,.own 3 1 (List.length x.C.Regs) (fl (eI .i64) x.C.Regs),.int .i64 x.C.Pc,.int .i64 x.C.Root,.int .i64 x.C.Vector,.int .i64 x.C.Saved,.bool x.C.SavedUser,.int .i64 x.C.Cause,.int .i64 x.C.Bad,.int .i64 x.C.Timer,.bool x.C.Waits,.bool x.C.User,.bool x.C.On,.bool x.C.Stopped,.own 153 3 (List.length x.Pages) (fl sD x.Pages),.own 3 1 (List.length x.In) (fl (eI .i64) x.In),.own 3 1 (List.length x.Out) (fl (eI .i64) x.Out)]
theorem tW:∀x,aG (uC x)=true:=λx=>by simp only[uC,aG,AV.noRef,Bool.and_self,aB bX,aB pL]
theorem aMt:∀x,aO (uC x)=true:=λx=>by simp only[uC,aO,AV.noBor,Bool.and_self,bD xQ,bD aEc]
theorem aYn:iN uC sA:=λx H r π j h=>(aI (aD rfl) (aI (dS (e:=3) rfl cC cN dC (h 1 _ rfl)) (aI (aD rfl) (aI (aD rfl) (aI (aD rfl) (aI (aD rfl) (aI (aD rfl) (aI (aD rfl) (aI (aD rfl) (aI (aD rfl) (aI (aD rfl) (aI (aD rfl) (aI (aD rfl) (aI (aD rfl) (aI (dS (e:=153) rfl aIm yC wQ (h 14 _ rfl)) (aI (dS (e:=3) rfl cC cN dC (h 15 _ rfl)) (aI (dS (e:=3) rfl cC cN dC (h 16 _ rfl)) vO)))))))))))))))))
def bHi(x:DCore)(us:List AV):List AV:= .int .i64 x.Pc:: .int .i64 x.Root:: .int .i64 x.Vector:: .int .i64 x.Saved:: .bool x.SavedUser:: .int .i64 x.Cause:: .int .i64 x.Bad:: .int .i64 x.Timer:: .bool x.Waits:: .bool x.User:: .bool x.On:: .bool x.Stopped::us
def xS(us:List AV):List AV:= .int .i64 (0:Int):: .int .i64 (0:Int):: .int .i64 (0:Int):: .int .i64 (0:Int):: .bool false:: .int .i64 (0:Int):: .int .i64 (0:Int):: .int .i64 (0:Int):: .bool false:: .bool false:: .bool false:: .bool false::us
def bHb(x:DShade)(us:List AV):List AV:= .bool x.There:: .bool x.Write:: .bool x.User:: .int .i64 x.Page:: .int .i64 x.Frame:: .bool x.Ready::us
def bFv(us:List AV):List AV:= .bool false:: .bool false:: .bool false:: .int .i64 (0:Int):: .int .i64 (0:Int):: .bool false::us
def bFt(x:DEntry)(us:List AV):List AV:= .bool x.There:: .bool x.Write:: .bool x.User:: .int .i64 x.Page::us
def bCt(us:List AV):List AV:= .bool false:: .bool false:: .bool false:: .int .i64 (0:Int)::us
def bGa(x:DCore)(us:List AV):List AV:= .int .i64 x.Pc:: .int .i64 x.Root:: .int .i64 x.Vector:: .int .i64 x.Saved:: .bool x.SavedUser:: .int .i64 x.Cause:: .int .i64 x.Bad:: .int .i64 x.Timer:: .bool x.Waits:: .bool x.User:: .bool x.On:: .bool x.Stopped::us
def bFm(us:List AV):List AV:= .int .i64 (0:Int):: .int .i64 (0:Int):: .int .i64 (0:Int):: .int .i64 (0:Int):: .bool false:: .int .i64 (0:Int):: .int .i64 (0:Int):: .int .i64 (0:Int):: .bool false:: .bool false:: .bool false:: .bool false::us
theorem rz{ρ:Nat->Option Nat}{n:Nat}{vs us:List AV}(h:Rens ρ n vs us:=by repeat first|exact eJ|refine bEd ?_|refine bCv ?_|refine aU bAi ?_|refine aU (jU ?_) ?_|refine aU (aBo dd rfl) ?_|refine aU zL ?_|refine aU (aLj dd rfl rfl) ?_|refine aU (bN (aQ (aB xA))) ?_|refine aU (bN (aQ (aB xF))) ?_|refine aU (bN (aQ (aB tQ))) ?_|refine aU (bN (aQ (aB aBg))) ?_|refine aU (bN (aQ (aB aBc))) ?_|refine aU (bN (aQ (aB vP))) ?_|refine aU (bN (aQ (aB aBa))) ?_|refine aU (bN (aQ (aB aBn))) ?_|refine aU (bN (aQ (aB wW))) ?_|refine aU (bN (aQ (aB pL))) ?_|refine aU (bN (aQ (aB xE))) ?_|refine aU (bN (aQ (aB jY))) ?_|refine aU (bN (aQ (aB aBj))) ?_|refine aU (bN (aQ (aB aBl))) ?_|refine aU (bN (aQ (aB wS))) ?_|refine aU (bN (aQ (aB xD))) ?_|refine aU (bN (aQ (aB tW))) ?_|refine aU (bN (aQ (aB aAx))) ?_|refine aU (bN (aQ (aB pQ))) ?_|refine aU (bN (aQ (aB aAz))) ?_|refine aU (bN (aQ (aB bX))) ?_|refine aU (bN (aQ (aB aRh))) ?_):Rens ρ n vs us:=h
theorem nrr{p:Prop}(h:p:=by simp only[bGa,bFt,bHi,bHb,bFm,bCt,xS,bFv,AV.noRef,aG,AV.noBor,aO,Bool.and_self,aB xA,aB xF,aB tQ,aB aBg,aB aBc,aB vP,aB aBa,aB aBn,aB wW,aB pL,aB xE,aB jY,aB aBj,aB aBl,aB wS,aB xD,aB tW,aB aAx,aB pQ,aB aAz,aB bX,aB aRh,xA,xF,tQ,aBg,aBc,vP,aBa,aBn,wW,pL,xE,jY,aBj,aBl,wS,xD,tW,aAx,pQ,aAz,bD aKj,bD aEc,bD aKw,bD aGp,bD aPp,bD aOs,bD aNp,bD aJs,bD aMt,bD aQy,bD aOx,bD aPi,bD xQ,bD bFs,aKj,aEc,aKw,aGp,aPp,aOs,aNp,aJs,aMt,aQy,aOx,aPi]):p:=h
abbrev zc0:List AV:=[bb false,.nil,ii 0,ii 0,ii 0,ii 0,bb false,ii 0,ii 0,ii 0,bb false,bb false,bb false,bb false,.nil,.nil,.nil]
abbrev rI_3(x:List Int):Root:=⟨3,fl (eI .i64) x⟩
abbrev rO41(x:List DGuest):Root:=⟨41,fl rG x⟩
end Go.Proofs.Ytkjabgefacfpfaa
