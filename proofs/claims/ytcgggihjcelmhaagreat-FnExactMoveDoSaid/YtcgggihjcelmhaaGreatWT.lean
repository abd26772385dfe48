/- The types of the plain functions. Made by program. -/
import Derived.Test.YtcgggihjcelmhaaGreatZY
import Derived.Test.YtcgggihjcelmhaaGreatProg
namespace Go.Proofs.YtcgggihjcelmhaaGreat
open Go.RowKit
set_option maxRecDepth 100000
set_option linter.all false
set_option maxHeartbeats 0
noncomputable def rg:=cBc Tryz.prog
abbrev LW(k:Nat)(L:LFun):Prop:=kM Tryz.prog k=some L
structure DCore where
 Regs:List Int
 Pc:Int
 Root:Int
 Vector:Int
 Saved:Int
 SavedUser:Bool
 Cause:Int
 Bad:Int
 Timer:Int
 Waits:Bool
 User:Bool
 On:Bool
 Stopped:Bool
deriving Inhabited
structure DSlot where
 Frame:Int
 Write:Bool
 Dirty:Bool
deriving Inhabited
structure DGuest where
 Live:Bool
 C:DCore
 Pages:List DSlot
 In:List Int
 Out:List Int
deriving Inhabited
structure DHost where
 Words:List Int
 Guests:List DGuest
deriving Inhabited
structure DMove where
 From:DHost
 To:DHost
 G:Int
 N:Int
 Left:List Bool
deriving Inhabited
structure DAct where
 Kind:Int
 Page:Int
deriving Inhabited
structure DBare where
 C:DCore
 Mem:List Int
 In:List Int
 Out:List Int
deriving Inhabited
structure Dl20Rd where
 b:List Int
 p:Int
deriving Inhabited
structure DIns where
 Op:Int
 A:Int
 N:Int
deriving Inhabited
structure DShade where
 There:Bool
 Write:Bool
 User:Bool
 Page:Int
 Frame:Int
 Ready:Bool
deriving Inhabited
structure DExit where
 Why:Int
 Page:Int
 What:DIns
deriving Inhabited
structure DEntry where
 There:Bool
 Write:Bool
 User:Bool
 Page:Int
deriving Inhabited
def aKn(x:DBare):List AV:=[bo (eI .i64) x.C.Regs,.int .i64 x.C.Pc,.int .i64 x.C.Root,.int .i64 x.C.Vector,.int .i64 x.C.Saved,.bool x.C.SavedUser,.int .i64 x.C.Cause,.int .i64 x.C.Bad,.int .i64 x.C.Timer,.bool x.C.Waits,.bool x.C.User,.bool x.C.On,.bool x.C.Stopped,bo (eI .i64) x.Mem,bo (eI .i64) x.In,bo (eI .i64) x.Out]
theorem bDz:∀x,noOwn (aKn x)=true:=λ_=>rfl
theorem aTe:∀x,aT (aKn x)=true:=λx=>by simp only[aKn,aT,AV.clean,Bool.and_self,aM bJ]
theorem aKy:∀x,aH (aKn x)=true:=λx=>by simp only[aKn,aH,AV.noRef,Bool.and_self,aC aX]
def aAx(x:DCore):List AV:=[bo (eI .i64) x.Regs,.int .i64 x.Pc,.int .i64 x.Root,.int .i64 x.Vector,.int .i64 x.Saved,.bool x.SavedUser,.int .i64 x.Cause,.int .i64 x.Bad,.int .i64 x.Timer,.bool x.Waits,.bool x.User,.bool x.On,.bool x.Stopped]
theorem bGl:∀x,noOwn (aAx x)=true:=λ_=>rfl
theorem aUb:∀x,aT (aAx x)=true:=λx=>by simp only[aAx,aT,AV.clean,Bool.and_self,aM bJ]
theorem aLw:∀x,aH (aAx x)=true:=λx=>by simp only[aAx,aH,AV.noRef,Bool.and_self,aC aX]
def eY(x:DSlot):List AV:=[.int .i64 x.Frame,.bool x.Write,.bool x.Dirty]
theorem mC:∀x,(eY x).length=3:=λ_=>rfl
theorem aLb:∀x,noOwn (eY x)=true:=λ_=>rfl
theorem aEa:∀x,aT (eY x)=true:=λ_=>rfl
theorem gU:∀x,aH (eY x)=true:=λ_=>rfl
theorem aUi:∀x,aO (eY x)=true:=λ_=>rfl
def dC(x:DGuest):List AV:=[.bool x.Live,bo (eI .i64) x.C.Regs,.int .i64 x.C.Pc,.int .i64 x.C.Root,.int .i64 x.C.Vector,.int .i64 x.C.Saved,.bool x.C.SavedUser,.int .i64 x.C.Cause,.int .i64 x.C.Bad,.int .i64 x.C.Timer,.bool x.C.Waits,.bool x.C.User,.bool x.C.On,.bool x.C.Stopped,bo eY x.Pages,bo (eI .i64) x.In,bo (eI .i64) x.Out]
theorem aZe:∀x,(dC x).length=17:=λ_=>rfl
theorem bFp:∀x,noOwn (dC x)=true:=λ_=>rfl
theorem aEo:∀x,aT (dC x)=true:=λx=>by simp only[dC,aT,AV.clean,Bool.and_self,aM bJ,aM aEa]
theorem aAb:∀x,aH (dC x)=true:=λx=>by simp only[dC,aH,AV.noRef,Bool.and_self,aC aX,aC gU]
def mI(x:DHost):List AV:=[bo (eI .i64) x.Words,bo dC x.Guests]
theorem bFq:∀x,noOwn (mI x)=true:=λ_=>rfl
theorem zY:∀x,aT (mI x)=true:=λx=>by simp only[mI,aT,AV.clean,Bool.and_self,aM bJ,aM aEo]
theorem aLm:∀x,aH (mI x)=true:=λx=>by simp only[mI,aH,AV.noRef,Bool.and_self,aC aX,aC aAb]
def uG(x:DSlot):List AV:=[.int .i64 x.Frame,.bool x.Write,.bool x.Dirty]
theorem aVw:∀x,(uG x).length=3:=λ_=>rfl
theorem aFk:∀x,noOwn (uG x)=true:=λ_=>rfl
theorem aBq:∀x,aT (uG x)=true:=λ_=>rfl
theorem wX:∀x,aH (uG x)=true:=λ_=>rfl
theorem aOr:∀x,aO (uG x)=true:=λ_=>rfl
def iR(x:DGuest):List AV:=[.bool x.Live,bo (eI .i64) x.C.Regs,.int .i64 x.C.Pc,.int .i64 x.C.Root,.int .i64 x.C.Vector,.int .i64 x.C.Saved,.bool x.C.SavedUser,.int .i64 x.C.Cause,.int .i64 x.C.Bad,.int .i64 x.C.Timer,.bool x.C.Waits,.bool x.C.User,.bool x.C.On,.bool x.C.Stopped,bo uG x.Pages,bo (eI .i64) x.In,bo (eI .i64) x.Out]
theorem aYn:∀x,noOwn (iR x)=true:=λ_=>rfl
theorem wR:∀x,aT (iR x)=true:=λx=>by simp only[iR,aT,AV.clean,Bool.and_self,aM bJ,aM aBq]
theorem xI:∀x,aH (iR x)=true:=λx=>by simp only[iR,aH,AV.noRef,Bool.and_self,aC aX,aC wX]
def bE(x:DGuest):List AV:=[.bool x.Live,.own 3 1 (List.length x.C.Regs) (fl (eI .i64) x.C.Regs),.int .i64 x.C.Pc,.int .i64 x.C.Root,.int .i64 x.C.Vector,.int .i64 x.C.Saved,.bool x.C.SavedUser,.int .i64 x.C.Cause,.int .i64 x.C.Bad,.int .i64 x.C.Timer,.bool x.C.Waits,.bool x.C.User,.bool x.C.On,.bool x.C.Stopped,.own 91 3 (List.length x.Pages) (fl eY x.Pages),.own 3 1 (List.length x.In) (fl (eI .i64) x.In),.own 3 1 (List.length x.Out) (fl (eI .i64) x.Out)]
theorem aL:∀x,(bE x).length=17:=λ_=>rfl
theorem cJ:∀x,aH (bE x)=true:=λx=>by simp only[bE,aH,AV.noRef,Bool.and_self,aC aX,aC gU]
theorem bEm:∀x,aO (bE x)=true:=λx=>by simp only[bE,aO,AV.noBor,Bool.and_self,bU aFp,bU aUi]
theorem cS:oI bE dC:=λx H r π j h=>(aB (aD rfl) (aB (aR (e:=3) rfl aV bL bJ (h 1 _ rfl)) (aB (aD rfl) (aB (aD rfl) (aB (aD rfl) (aB (aD rfl) (aB (aD rfl) (aB (aD rfl) (aB (aD rfl) (aB (aD rfl) (aB (aD rfl) (aB (aD rfl) (aB (aD rfl) (aB (aD rfl) (aB (aR (e:=91) rfl mC aLb aEa (h 14 _ rfl)) (aB (aR (e:=3) rfl aV bL bJ (h 15 _ rfl)) (aB (aR (e:=3) rfl aV bL bJ (h 16 _ rfl)) fH)))))))))))))))))
def aKx(x:DShade):List AV:=[.bool x.There,.bool x.Write,.bool x.User,.int .i64 x.Page,.int .i64 x.Frame,.bool x.Ready]
theorem bBy:∀x,noOwn (aKx x)=true:=λ_=>rfl
theorem aPv:∀x,aT (aKx x)=true:=λ_=>rfl
theorem aFz:∀x,aH (aKx x)=true:=λ_=>rfl
theorem aYp:∀x,aO (aKx x)=true:=λ_=>rfl
def aLl(x:DEntry):List AV:=[.bool x.There,.bool x.Write,.bool x.User,.int .i64 x.Page]
theorem aYw:∀x,noOwn (aLl x)=true:=λ_=>rfl
theorem aNv:∀x,aT (aLl x)=true:=λ_=>rfl
theorem aGg:∀x,aH (aLl x)=true:=λ_=>rfl
theorem bBc:∀x,aO (aLl x)=true:=λ_=>rfl
def aLj(x:DIns):List AV:=[.int .i64 x.Op,.int .i64 x.A,.int .i64 x.N]
theorem bCj:∀x,noOwn (aLj x)=true:=λ_=>rfl
theorem aPh:∀x,aT (aLj x)=true:=λ_=>rfl
theorem aGn:∀x,aH (aLj x)=true:=λ_=>rfl
theorem aZj:∀x,aO (aLj x)=true:=λ_=>rfl
def aLe(x:DExit):List AV:=[.int .i64 x.Why,.int .i64 x.Page,.int .i64 x.What.Op,.int .i64 x.What.A,.int .i64 x.What.N]
theorem bCb:∀x,noOwn (aLe x)=true:=λ_=>rfl
theorem aOd:∀x,aT (aLe x)=true:=λ_=>rfl
theorem aGe:∀x,aH (aLe x)=true:=λ_=>rfl
theorem bCv:∀x,aO (aLe x)=true:=λ_=>rfl
def yQ(x:DMove):List AV:=[bo (eI .i64) x.From.Words,bo dC x.From.Guests,bo (eI .i64) x.To.Words,bo dC x.To.Guests,.int .i64 x.G,.int .i64 x.N,bo eB x.Left]
theorem bEb:∀x,noOwn (yQ x)=true:=λ_=>rfl
theorem aTm:∀x,aT (yQ x)=true:=λx=>by simp only[yQ,aT,AV.clean,Bool.and_self,aM bJ,aM aEo,aM kV]
theorem aLh:∀x,aH (yQ x)=true:=λx=>by simp only[yQ,aH,AV.noRef,Bool.and_self,aC aX,aC aAb,aC mH]
def dS(x:DAct):List AV:=[.int .i64 x.Kind,.int .i64 x.Page]
theorem bEp:∀x,noOwn (dS x)=true:=λ_=>rfl
theorem aLa:∀x,aT (dS x)=true:=λ_=>rfl
theorem aLv:∀x,aH (dS x)=true:=λ_=>rfl
theorem bGq:∀x,aO (dS x)=true:=λ_=>rfl
def aKj(x:DAct):List AV:=[.int .i64 x.Kind,.int .i64 x.Page]
theorem bFr:∀x,noOwn (aKj x)=true:=λ_=>rfl
theorem aUk:∀x,aT (aKj x)=true:=λ_=>rfl
theorem aKr:∀x,aH (aKj x)=true:=λ_=>rfl
theorem bDv:∀x,aO (aKj x)=true:=λ_=>rfl
def xP(x:DGuest):List AV:=[.bool x.Live,.own 3 1 (List.length x.C.Regs) (fl (eI .i64) x.C.Regs),.int .i64 x.C.Pc,.int .i64 x.C.Root,.int .i64 x.C.Vector,.int .i64 x.C.Saved,.bool x.C.SavedUser,.int .i64 x.C.Cause,.int .i64 x.C.Bad,.int .i64 x.C.Timer,.bool x.C.Waits,.bool x.C.User,.bool x.C.On,.bool x.C.Stopped,.own 211 3 (List.length x.Pages) (fl uG x.Pages),.own 3 1 (List.length x.In) (fl (eI .i64) x.In),.own 3 1 (List.length x.Out) (fl (eI .i64) x.Out)]
theorem wU:∀x,aH (xP x)=true:=λx=>by simp only[xP,aH,AV.noRef,Bool.and_self,aC aX,aC wX]
theorem aYm:∀x,aO (xP x)=true:=λx=>by simp only[xP,aO,AV.noBor,Bool.and_self,bU aFp,bU aOr]
theorem bOs:oI xP iR:=λx H r π j h=>(aB (aD rfl) (aB (aR (e:=3) rfl aV bL bJ (h 1 _ rfl)) (aB (aD rfl) (aB (aD rfl) (aB (aD rfl) (aB (aD rfl) (aB (aD rfl) (aB (aD rfl) (aB (aD rfl) (aB (aD rfl) (aB (aD rfl) (aB (aD rfl) (aB (aD rfl) (aB (aD rfl) (aB (aR (e:=211) rfl aVw aFk aBq (h 14 _ rfl)) (aB (aR (e:=3) rfl aV bL bJ (h 15 _ rfl)) (aB (aR (e:=3) rfl aV bL bJ (h 16 _ rfl)) fH)))))))))))))))))
def aCq(x:Dl20Rd):List AV:=[bo (eI .u8) x.b,.int .i64 x.p]
theorem bAq:∀x,noOwn (aCq x)=true:=λ_=>rfl
theorem aPk:∀x,aT (aCq x)=true:=λx=>by simp only[aCq,aT,AV.clean,Bool.and_self,aM bJ]
theorem aFy:∀x,aH (aCq x)=true:=λx=>by simp only[aCq,aH,AV.noRef,Bool.and_self,aC aX]
def aNu(x:DHost):List AV:=[bo (eI .i64) x.Words,bo iR x.Guests]
theorem bGj:∀x,noOwn (aNu x)=true:=λ_=>rfl
theorem aUu:∀x,aT (aNu x)=true:=λx=>by simp only[aNu,aT,AV.clean,Bool.and_self,aM bJ,aM wR]
theorem aLc:∀x,aH (aNu x)=true:=λx=>by simp only[aNu,aH,AV.noRef,Bool.and_self,aC aX,aC xI]
def nM(x:DMove):List AV:=[bo (eI .i64) x.From.Words,bo iR x.From.Guests,bo (eI .i64) x.To.Words,bo iR x.To.Guests,.int .i64 x.G,.int .i64 x.N,bo eB x.Left]
theorem bFt:∀x,noOwn (nM x)=true:=λ_=>rfl
theorem aKu:∀x,aT (nM x)=true:=λx=>by simp only[nM,aT,AV.clean,Bool.and_self,aM bJ,aM wR,aM kV]
theorem aLn:∀x,aH (nM x)=true:=λx=>by simp only[nM,aH,AV.noRef,Bool.and_self,aC aX,aC xI,aC mH]
def aCd(x:DCore):List AV:=[bo (eI .i64) x.Regs,.int .i64 x.Pc,.int .i64 x.Root,.int .i64 x.Vector,.int .i64 x.Saved,.bool x.SavedUser,.int .i64 x.Cause,.int .i64 x.Bad,.int .i64 x.Timer,.bool x.Waits,.bool x.User,.bool x.On,.bool x.Stopped]
theorem bAj:∀x,noOwn (aCd x)=true:=λ_=>rfl
theorem aPe:∀x,aT (aCd x)=true:=λx=>by simp only[aCd,aT,AV.clean,Bool.and_self,aM bJ]
theorem aFh:∀x,aH (aCd x)=true:=λx=>by simp only[aCd,aH,AV.noRef,Bool.and_self,aC aX]
def aPr(x:DCore):List AV:=[.own 3 1 (List.length x.Regs) (fl (eI .i64) x.Regs),.int .i64 x.Pc,.int .i64 x.Root,.int .i64 x.Vector,.int .i64 x.Saved,.bool x.SavedUser,.int .i64 x.Cause,.int .i64 x.Bad,.int .i64 x.Timer,.bool x.Waits,.bool x.User,.bool x.On,.bool x.Stopped]
theorem aLg:∀x,aH (aPr x)=true:=λx=>by simp only[aPr,aH,AV.noRef,Bool.and_self,aC aX]
theorem bFv:∀x,aO (aPr x)=true:=λx=>by simp only[aPr,aO,AV.noBor,Bool.and_self,bU aFp]
theorem bTi:oI aPr aAx:=λx H r π j h=>(aB (aR (e:=3) rfl aV bL bJ (h 0 _ rfl)) (aB (aD rfl) (aB (aD rfl) (aB (aD rfl) (aB (aD rfl) (aB (aD rfl) (aB (aD rfl) (aB (aD rfl) (aB (aD rfl) (aB (aD rfl) (aB (aD rfl) (aB (aD rfl) (aB (aD rfl) fH)))))))))))))
def aPg(x:DBare):List AV:=[.own 3 1 (List.length x.C.Regs) (fl (eI .i64) x.C.Regs),.int .i64 x.C.Pc,.int .i64 x.C.Root,.int .i64 x.C.Vector,.int .i64 x.C.Saved,.bool x.C.SavedUser,.int .i64 x.C.Cause,.int .i64 x.C.Bad,.int .i64 x.C.Timer,.bool x.C.Waits,.bool x.C.User,.bool x.C.On,.bool x.C.Stopped,.own 3 1 (List.length x.Mem) (fl (eI .i64) x.Mem),.own 3 1 (List.length x.In) (fl (eI .i64) x.In),.own 3 1 (List.length x.Out) (fl (eI .i64) x.Out)]
theorem aLt:∀x,aH (aPg x)=true:=λx=>by simp only[aPg,aH,AV.noRef,Bool.and_self,aC aX]
theorem bFo:∀x,aO (aPg x)=true:=λx=>by simp only[aPg,aO,AV.noBor,Bool.and_self,bU aFp]
theorem bTq:oI aPg aKn:=λx H r π j h=>(aB (aR (e:=3) rfl aV bL bJ (h 0 _ rfl)) (aB (aD rfl) (aB (aD rfl) (aB (aD rfl) (aB (aD rfl) (aB (aD rfl) (aB (aD rfl) (aB (aD rfl) (aB (aD rfl) (aB (aD rfl) (aB (aD rfl) (aB (aD rfl) (aB (aD rfl) (aB (aR (e:=3) rfl aV bL bJ (h 13 _ rfl)) (aB (aR (e:=3) rfl aV bL bJ (h 14 _ rfl)) (aB (aR (e:=3) rfl aV bL bJ (h 15 _ rfl)) fH))))))))))))))))
def aGz(x:Dl20Rd):List AV:=[.own 5 1 (List.length x.b) (fl (eI .u8) x.b),.int .i64 x.p]
theorem aFd:∀x,aH (aGz x)=true:=λx=>by simp only[aGz,aH,AV.noRef,Bool.and_self,aC aX]
theorem aZt:∀x,aO (aGz x)=true:=λx=>by simp only[aGz,aO,AV.noBor,Bool.and_self,bU aFp]
theorem bPi:oI aGz aCq:=λx H r π j h=>(aB (aR (e:=5) rfl aV bL bJ (h 0 _ rfl)) (aB (aD rfl) fH))
def aEv(x:DCore):List AV:=[.own 3 1 (List.length x.Regs) (fl (eI .i64) x.Regs),.int .i64 x.Pc,.int .i64 x.Root,.int .i64 x.Vector,.int .i64 x.Saved,.bool x.SavedUser,.int .i64 x.Cause,.int .i64 x.Bad,.int .i64 x.Timer,.bool x.Waits,.bool x.User,.bool x.On,.bool x.Stopped]
theorem aGx:∀x,aH (aEv x)=true:=λx=>by simp only[aEv,aH,AV.noRef,Bool.and_self,aC aX]
theorem bCu:∀x,aO (aEv x)=true:=λx=>by simp only[aEv,aO,AV.noBor,Bool.and_self,bU aFp]
theorem bOf:oI aEv aCd:=λx H r π j h=>(aB (aR (e:=3) rfl aV bL bJ (h 0 _ rfl)) (aB (aD rfl) (aB (aD rfl) (aB (aD rfl) (aB (aD rfl) (aB (aD rfl) (aB (aD rfl) (aB (aD rfl) (aB (aD rfl) (aB (aD rfl) (aB (aD rfl) (aB (aD rfl) (aB (aD rfl) fH)))))))))))))
def cBr(x:DCore)(us:List AV):List AV:= .int .i64 x.Pc:: .int .i64 x.Root:: .int .i64 x.Vector:: .int .i64 x.Saved:: .bool x.SavedUser:: .int .i64 x.Cause:: .int .i64 x.Bad:: .int .i64 x.Timer:: .bool x.Waits:: .bool x.User:: .bool x.On:: .bool x.Stopped::us
def cAh(us:List AV):List AV:= .int .i64 (0:Int):: .int .i64 (0:Int):: .int .i64 (0:Int):: .int .i64 (0:Int):: .bool false:: .int .i64 (0:Int):: .int .i64 (0:Int):: .int .i64 (0:Int):: .bool false:: .bool false:: .bool false:: .bool false::us
def cAq(x:DShade)(us:List AV):List AV:= .bool x.There:: .bool x.Write:: .bool x.User:: .int .i64 x.Page:: .int .i64 x.Frame:: .bool x.Ready::us
def bVl(us:List AV):List AV:= .bool false:: .bool false:: .bool false:: .int .i64 (0:Int):: .int .i64 (0:Int):: .bool false::us
def cAs(x:DEntry)(us:List AV):List AV:= .bool x.There:: .bool x.Write:: .bool x.User:: .int .i64 x.Page::us
def bXm(us:List AV):List AV:= .bool false:: .bool false:: .bool false:: .int .i64 (0:Int)::us
def cAk(x:DCore)(us:List AV):List AV:= .int .i64 x.Pc:: .int .i64 x.Root:: .int .i64 x.Vector:: .int .i64 x.Saved:: .bool x.SavedUser:: .int .i64 x.Cause:: .int .i64 x.Bad:: .int .i64 x.Timer:: .bool x.Waits:: .bool x.User:: .bool x.On:: .bool x.Stopped::us
def bZe(us:List AV):List AV:= .int .i64 (0:Int):: .int .i64 (0:Int):: .int .i64 (0:Int):: .int .i64 (0:Int):: .bool false:: .int .i64 (0:Int):: .int .i64 (0:Int):: .int .i64 (0:Int):: .bool false:: .bool false:: .bool false:: .bool false::us
theorem rz{ρ:Nat->Option Nat}{n:Nat}{vs us:List AV}(h:Rens ρ n vs us:=by repeat first|exact hY|refine bZz ?_|refine bVt ?_|refine bB bTb ?_|refine bB (rU ?_) ?_|refine bB (aSx dd rfl) ?_|refine bB aBa ?_|refine bB (bBm dd rfl rfl) ?_|refine bB (bW (aQ (aC aFy))) ?_|refine bB (bW (aQ (aC aFh))) ?_|refine bB (bW (aQ (aC xI))) ?_|refine bB (bW (aQ (aC aLm))) ?_|refine bB (bW (aQ (aC aLh))) ?_|refine bB (bW (aQ (aC aLw))) ?_|refine bB (bW (aQ (aC aKy))) ?_|refine bB (bW (aQ (aC aLc))) ?_|refine bB (bW (aQ (aC aLn))) ?_|refine bB (bW (aQ (aC aAb))) ?_|refine bB (bW (aQ (aC aGn))) ?_|refine bB (bW (aQ (aC aFz))) ?_|refine bB (bW (aQ (aC aGe))) ?_|refine bB (bW (aQ (aC aGg))) ?_|refine bB (bW (aQ (aC wX))) ?_|refine bB (bW (aQ (aC aLv))) ?_|refine bB (bW (aQ (aC aKr))) ?_|refine bB (bW (aQ (aC gU))) ?_|refine bB (bW (aQ (aC aFd))) ?_|refine bB (bW (aQ (aC aGx))) ?_|refine bB (bW (aQ (aC wU))) ?_|refine bB (bW (aQ (aC aLg))) ?_|refine bB (bW (aQ (aC aLt))) ?_|refine bB (bW (aQ (aC cJ))) ?_|refine bB (bW (aQ (aC aX))) ?_|refine bB (bW (aQ (aC mH))) ?_):Rens ρ n vs us:=h
theorem cz{H:Heap}{vs us:List AV}(h:Clos H vs us:=by repeat first|exact fH|refine cs1 ?_|refine aB (aD (cL (aM aPk))) ?_|refine aB (aD (cL (aM aPe))) ?_|refine aB (aD (cL (aM wR))) ?_|refine aB (aD (cL (aM zY))) ?_|refine aB (aD (cL (aM aTm))) ?_|refine aB (aD (cL (aM aUb))) ?_|refine aB (aD (cL (aM aTe))) ?_|refine aB (aD (cL (aM aUu))) ?_|refine aB (aD (cL (aM aKu))) ?_|refine aB (aD (cL (aM aEo))) ?_|refine aB (aD (cL (aM aPh))) ?_|refine aB (aD (cL (aM aPv))) ?_|refine aB (aD (cL (aM aOd))) ?_|refine aB (aD (cL (aM aNv))) ?_|refine aB (aD (cL (aM aBq))) ?_|refine aB (aD (cL (aM aLa))) ?_|refine aB (aD (cL (aM aUk))) ?_|refine aB (aD (cL (aM aEa))) ?_|refine aB (aD (cL (aM bJ))) ?_|refine aB (aD (cL (aM kV))) ?_):Clos H vs us:=h
theorem nrr{p:Prop}(h:p:=by simp only[cAq,cAk,cAs,cBr,bVl,bZe,bXm,cAh,AV.noRef,aH,AV.noBor,aO,Bool.and_self,aC aFy,aC aFh,aC xI,aC aLm,aC aLh,aC aLw,aC aKy,aC aLc,aC aLn,aC aAb,aC aGn,aC aFz,aC aGe,aC aGg,aC wX,aC aLv,aC aKr,aC gU,aC aFd,aC aGx,aC wU,aC aLg,aC aLt,aC cJ,aC aX,aC mH,aFy,aFh,xI,aLm,aLh,aLw,aKy,aLc,aLn,aAb,aGn,aFz,aGe,aGg,wX,aLv,aKr,gU,aFd,aGx,wU,aLg,aLt,cJ,bU aZj,bU aYp,bU bCv,bU bBc,bU aOr,bU bGq,bU bDv,bU aUi,bU aZt,bU bCu,bU aYm,bU bFv,bU bFo,bU bEm,bU aFp,bU cAx,aZj,aYp,bCv,bBc,aOr,bGq,bDv,aUi,aZt,bCu,aYm,bFv,bFo,bEm]):p:=h
abbrev rI_3(x:List Int):Root:=⟨3,fl (eI .i64) x⟩
abbrev rC91(x:List DSlot):Root:=⟨91,fl eY x⟩
abbrev rO94(x:List DGuest):Root:=⟨94,fl bE x⟩
abbrev rB26(x:DHost):Root:=⟨26,mI x⟩
abbrev rT_4(x:List Bool):Root:=⟨4,fl eB x⟩
abbrev rB64(x:DMove):Root:=⟨64,nM x⟩
end Go.Proofs.YtcgggihjcelmhaaGreat
