/- The types of the plain functions. Made by program. -/
import Derived.Test.YtcgggihjcelmhaaGreatZY
import Derived.Test.YtcgggihjcelmhaaGreatProg
namespace Go.Proofs.YtcgggihjcelmhaaGreat
open List renaming length → x9
open Bool renaming and_self → d8
open Go.RowKit
set_option maxRecDepth 100000
set_option linter.all false
set_option maxHeartbeats 0
noncomputable def rg:=cGa Tryz.prog
abbrev LW(k:Nat)(L:LFun):Prop:=kP Tryz.prog k=some L
structure DCore where
 Regs:List Int
 Pc:Int
 Root:Int
 Vector:Int
 Saved:Int
 SavedUser:Bool
 Cause:Int
 Bad:Int
 Timer:Int
 Waits:Bool
 User:Bool
 On:Bool
 Stopped:Bool
deriving Inhabited
structure DSlot where
 Frame:Int
 Write:Bool
 Dirty:Bool
deriving Inhabited
structure DGuest where
 Live:Bool
 C:DCore
 Pages:List DSlot
 In:List Int
 Out:List Int
deriving Inhabited
structure DHost where
 Words:List Int
 Guests:List DGuest
deriving Inhabited
structure DMove where
 From:DHost
 To:DHost
 G:Int
 N:Int
 Left:List Bool
deriving Inhabited
structure DAct where
 Kind:Int
 Page:Int
deriving Inhabited
structure DBare where
 C:DCore
 Mem:List Int
 In:List Int
 Out:List Int
deriving Inhabited
structure Dl20Rd where
 b:List Int
 p:Int
deriving Inhabited
structure DIns where
 Op:Int
 A:Int
 N:Int
deriving Inhabited
structure DShade where
 There:Bool
 Write:Bool
 User:Bool
 Page:Int
 Frame:Int
 Ready:Bool
deriving Inhabited
structure DExit where
 Why:Int
 Page:Int
 What:DIns
deriving Inhabited
structure DEntry where
 There:Bool
 Write:Bool
 User:Bool
 Page:Int
deriving Inhabited
def tI(x:DBare):List AV:=[bo (eI .i64) x.C.Regs,.int .i64 x.C.Pc,.int .i64 x.C.Root,.int .i64 x.C.Vector,.int .i64 x.C.Saved,.bool x.C.SavedUser,.int .i64 x.C.Cause,.int .i64 x.C.Bad,.int .i64 x.C.Timer,.bool x.C.Waits,.bool x.C.User,.bool x.C.On,.bool x.C.Stopped,bo (eI .i64) x.Mem,bo (eI .i64) x.In,bo (eI .i64) x.Out]
theorem bIh:∀x,noOwn (tI x)=true:=λ_=>rfl
theorem aVt:∀x,aS (tI x)=true:=λx=>by simp only[tI,aS,AV.clean,d8,bL dB]
theorem aNp:∀x,aG (tI x)=true:=λx=>by simp only[tI,aG,AV.noRef,d8,aC bO]
def aLg(x:DCore):List AV:=[bo (eI .i64) x.Regs,.int .i64 x.Pc,.int .i64 x.Root,.int .i64 x.Vector,.int .i64 x.Saved,.bool x.SavedUser,.int .i64 x.Cause,.int .i64 x.Bad,.int .i64 x.Timer,.bool x.Waits,.bool x.User,.bool x.On,.bool x.Stopped]
theorem bHa:∀x,noOwn (aLg x)=true:=λ_=>rfl
theorem bJd:∀x,aS (aLg x)=true:=λx=>by simp only[aLg,aS,AV.clean,d8,bL dB]
theorem aMz:∀x,aG (aLg x)=true:=λx=>by simp only[aLg,aG,AV.noRef,d8,aC bO]
def dP(x:DSlot):List AV:=[.int .i64 x.Frame,.bool x.Write,.bool x.Dirty]
theorem rT:∀x,(dP x).length=3:=λ_=>rfl
theorem aNg:∀x,noOwn (dP x)=true:=λ_=>rfl
theorem aFu:∀x,aS (dP x)=true:=λ_=>rfl
theorem oF:∀x,aG (dP x)=true:=λ_=>rfl
theorem aWc:∀x,aN (dP x)=true:=λ_=>rfl
def dI(x:DGuest):List AV:=[.bool x.Live,bo (eI .i64) x.C.Regs,.int .i64 x.C.Pc,.int .i64 x.C.Root,.int .i64 x.C.Vector,.int .i64 x.C.Saved,.bool x.C.SavedUser,.int .i64 x.C.Cause,.int .i64 x.C.Bad,.int .i64 x.C.Timer,.bool x.C.Waits,.bool x.C.User,.bool x.C.On,.bool x.C.Stopped,bo dP x.Pages,bo (eI .i64) x.In,bo (eI .i64) x.Out]
theorem aHh:∀x,(dI x).length=17:=λ_=>rfl
theorem bGk:∀x,noOwn (dI x)=true:=λ_=>rfl
theorem aGi:∀x,aS (dI x)=true:=λx=>by simp only[dI,aS,AV.clean,d8,bL dB,bL aFu]
theorem aCg:∀x,aG (dI x)=true:=λx=>by simp only[dI,aG,AV.noRef,d8,aC bO,aC oF]
def dE(x:DHost):List AV:=[bo (eI .i64) x.Words,bo dI x.Guests]
theorem bIl:∀x,noOwn (dE x)=true:=λ_=>rfl
theorem qL:∀x,aS (dE x)=true:=λx=>by simp only[dE,aS,AV.clean,d8,bL dB,bL aGi]
theorem aNf:∀x,aG (dE x)=true:=λx=>by simp only[dE,aG,AV.noRef,d8,aC bO,aC aCg]
def aBw(x:DSlot):List AV:=[.int .i64 x.Frame,.bool x.Write,.bool x.Dirty]
theorem aYr:∀x,(aBw x).length=3:=λ_=>rfl
theorem aIe:∀x,noOwn (aBw x)=true:=λ_=>rfl
theorem aIp:∀x,aS (aBw x)=true:=λ_=>rfl
theorem yB:∀x,aG (aBw x)=true:=λ_=>rfl
theorem aRj:∀x,aN (aBw x)=true:=λ_=>rfl
def wP(x:DGuest):List AV:=[.bool x.Live,bo (eI .i64) x.C.Regs,.int .i64 x.C.Pc,.int .i64 x.C.Root,.int .i64 x.C.Vector,.int .i64 x.C.Saved,.bool x.C.SavedUser,.int .i64 x.C.Cause,.int .i64 x.C.Bad,.int .i64 x.C.Timer,.bool x.C.Waits,.bool x.C.User,.bool x.C.On,.bool x.C.Stopped,bo aBw x.Pages,bo (eI .i64) x.In,bo (eI .i64) x.Out]
theorem bCo:∀x,noOwn (wP x)=true:=λ_=>rfl
theorem aIn:∀x,aS (wP x)=true:=λx=>by simp only[wP,aS,AV.clean,d8,bL dB,bL aIp]
theorem yA:∀x,aG (wP x)=true:=λx=>by simp only[wP,aG,AV.noRef,d8,aC bO,aC yB]
def dO(x:DGuest):List AV:=[.bool x.Live,.own 3 1 (x9 x.C.Regs) (fl (eI .i64) x.C.Regs),.int .i64 x.C.Pc,.int .i64 x.C.Root,.int .i64 x.C.Vector,.int .i64 x.C.Saved,.bool x.C.SavedUser,.int .i64 x.C.Cause,.int .i64 x.C.Bad,.int .i64 x.C.Timer,.bool x.C.Waits,.bool x.C.User,.bool x.C.On,.bool x.C.Stopped,.own 91 3 (x9 x.Pages) (fl dP x.Pages),.own 3 1 (x9 x.In) (fl (eI .i64) x.In),.own 3 1 (x9 x.Out) (fl (eI .i64) x.Out)]
theorem pQ:∀x,(dO x).length=17:=λ_=>rfl
theorem gX:∀x,aG (dO x)=true:=λx=>by simp only[dO,aG,AV.noRef,d8,aC bO,aC oF]
theorem bIu:∀x,aN (dO x)=true:=λx=>by simp only[dO,aN,AV.noBor,d8,bK aHx,bK aWc]
theorem aVz:oG dO dI:=λx H r π j h=>(aJ (aE rfl) (aJ (eT (e:=3) rfl cG dN dB (h 1 _ rfl)) (aJ (aE rfl) (aJ (aE rfl) (aJ (aE rfl) (aJ (aE rfl) (aJ (aE rfl) (aJ (aE rfl) (aJ (aE rfl) (aJ (aE rfl) (aJ (aE rfl) (aJ (aE rfl) (aJ (aE rfl) (aJ (aE rfl) (aJ (eT (e:=91) rfl rT aNg aFu (h 14 _ rfl)) (aJ (eT (e:=3) rfl cG dN dB (h 15 _ rfl)) (aJ (eT (e:=3) rfl cG dN dB (h 16 _ rfl)) yY)))))))))))))))))
def aMr(x:DShade):List AV:=[.bool x.There,.bool x.Write,.bool x.User,.int .i64 x.Page,.int .i64 x.Frame,.bool x.Ready]
theorem bBy:∀x,noOwn (aMr x)=true:=λ_=>rfl
theorem bFc:∀x,aS (aMr x)=true:=λ_=>rfl
theorem aIr:∀x,aG (aMr x)=true:=λ_=>rfl
theorem bEt:∀x,aN (aMr x)=true:=λ_=>rfl
def aNl(x:DEntry):List AV:=[.bool x.There,.bool x.Write,.bool x.User,.int .i64 x.Page]
theorem bEa:∀x,noOwn (aNl x)=true:=λ_=>rfl
theorem bDn:∀x,aS (aNl x)=true:=λ_=>rfl
theorem aGu:∀x,aG (aNl x)=true:=λ_=>rfl
theorem bEu:∀x,aN (aNl x)=true:=λ_=>rfl
def aNb(x:DIns):List AV:=[.int .i64 x.Op,.int .i64 x.A,.int .i64 x.N]
theorem bBo:∀x,noOwn (aNb x)=true:=λ_=>rfl
theorem bAo:∀x,aS (aNb x)=true:=λ_=>rfl
theorem aGr:∀x,aG (aNb x)=true:=λ_=>rfl
theorem bCl:∀x,aN (aNb x)=true:=λ_=>rfl
def aMp(x:DExit):List AV:=[.int .i64 x.Why,.int .i64 x.Page,.int .i64 x.What.Op,.int .i64 x.What.A,.int .i64 x.What.N]
theorem bCc:∀x,noOwn (aMp x)=true:=λ_=>rfl
theorem bBh:∀x,aS (aMp x)=true:=λ_=>rfl
theorem aIj:∀x,aG (aMp x)=true:=λ_=>rfl
theorem bBq:∀x,aN (aMp x)=true:=λ_=>rfl
def aQg(x:DMove):List AV:=[bo (eI .i64) x.From.Words,bo dI x.From.Guests,bo (eI .i64) x.To.Words,bo dI x.To.Guests,.int .i64 x.G,.int .i64 x.N,bo eB x.Left]
theorem bIy:∀x,noOwn (aQg x)=true:=λ_=>rfl
theorem bJh:∀x,aS (aQg x)=true:=λx=>by simp only[aQg,aS,AV.clean,d8,bL dB,bL aGi,bL aZj]
theorem aMk:∀x,aG (aQg x)=true:=λx=>by simp only[aQg,aG,AV.noRef,d8,aC bO,aC aCg,aC aEc]
def aWt(x:DAct):List AV:=[.int .i64 x.Kind,.int .i64 x.Page]
theorem bGn:∀x,noOwn (aWt x)=true:=λ_=>rfl
theorem bGz:∀x,aS (aWt x)=true:=λ_=>rfl
theorem aNn:∀x,aG (aWt x)=true:=λ_=>rfl
theorem bJa:∀x,aN (aWt x)=true:=λ_=>rfl
def aVq(x:DAct):List AV:=[.int .i64 x.Kind,.int .i64 x.Page]
theorem bJe:∀x,noOwn (aVq x)=true:=λ_=>rfl
theorem bHv:∀x,aS (aVq x)=true:=λ_=>rfl
theorem aNh:∀x,aG (aVq x)=true:=λ_=>rfl
theorem bIw:∀x,aN (aVq x)=true:=λ_=>rfl
def yL(x:DGuest):List AV:=[.bool x.Live,.own 3 1 (x9 x.C.Regs) (fl (eI .i64) x.C.Regs),.int .i64 x.C.Pc,.int .i64 x.C.Root,.int .i64 x.C.Vector,.int .i64 x.C.Saved,.bool x.C.SavedUser,.int .i64 x.C.Cause,.int .i64 x.C.Bad,.int .i64 x.C.Timer,.bool x.C.Waits,.bool x.C.User,.bool x.C.On,.bool x.C.Stopped,.own 211 3 (x9 x.Pages) (fl aBw x.Pages),.own 3 1 (x9 x.In) (fl (eI .i64) x.In),.own 3 1 (x9 x.Out) (fl (eI .i64) x.Out)]
theorem yC:∀x,aG (yL x)=true:=λx=>by simp only[yL,aG,AV.noRef,d8,aC bO,aC yB]
theorem bCz:∀x,aN (yL x)=true:=λx=>by simp only[yL,aN,AV.noBor,d8,bK aHx,bK aRj]
theorem bUv:oG yL wP:=λx H r π j h=>(aJ (aE rfl) (aJ (eT (e:=3) rfl cG dN dB (h 1 _ rfl)) (aJ (aE rfl) (aJ (aE rfl) (aJ (aE rfl) (aJ (aE rfl) (aJ (aE rfl) (aJ (aE rfl) (aJ (aE rfl) (aJ (aE rfl) (aJ (aE rfl) (aJ (aE rfl) (aJ (aE rfl) (aJ (aE rfl) (aJ (eT (e:=211) rfl aYr aIe aIp (h 14 _ rfl)) (aJ (eT (e:=3) rfl cG dN dB (h 15 _ rfl)) (aJ (eT (e:=3) rfl cG dN dB (h 16 _ rfl)) yY)))))))))))))))))
def aEh(x:Dl20Rd):List AV:=[bo (eI .u8) x.b,.int .i64 x.p]
theorem bCn:∀x,noOwn (aEh x)=true:=λ_=>rfl
theorem bAb:∀x,aS (aEh x)=true:=λx=>by simp only[aEh,aS,AV.clean,d8,bL dB]
theorem aHi:∀x,aG (aEh x)=true:=λx=>by simp only[aEh,aG,AV.noRef,d8,aC bO]
def aQk(x:DHost):List AV:=[bo (eI .i64) x.Words,bo wP x.Guests]
theorem bHn:∀x,noOwn (aQk x)=true:=λ_=>rfl
theorem bJo:∀x,aS (aQk x)=true:=λx=>by simp only[aQk,aS,AV.clean,d8,bL dB,bL aIn]
theorem aMl:∀x,aG (aQk x)=true:=λx=>by simp only[aQk,aG,AV.noRef,d8,aC bO,aC yA]
def aRw(x:DMove):List AV:=[bo (eI .i64) x.From.Words,bo wP x.From.Guests,bo (eI .i64) x.To.Words,bo wP x.To.Guests,.int .i64 x.G,.int .i64 x.N,bo eB x.Left]
theorem bIg:∀x,noOwn (aRw x)=true:=λ_=>rfl
theorem bGs:∀x,aS (aRw x)=true:=λx=>by simp only[aRw,aS,AV.clean,d8,bL dB,bL aIn,bL aZj]
theorem aMy:∀x,aG (aRw x)=true:=λx=>by simp only[aRw,aG,AV.noRef,d8,aC bO,aC yA,aC aEc]
def aDw(x:DCore):List AV:=[bo (eI .i64) x.Regs,.int .i64 x.Pc,.int .i64 x.Root,.int .i64 x.Vector,.int .i64 x.Saved,.bool x.SavedUser,.int .i64 x.Cause,.int .i64 x.Bad,.int .i64 x.Timer,.bool x.Waits,.bool x.User,.bool x.On,.bool x.Stopped]
theorem bCq:∀x,noOwn (aDw x)=true:=λ_=>rfl
theorem bAa:∀x,aS (aDw x)=true:=λx=>by simp only[aDw,aS,AV.clean,d8,bL dB]
theorem aHd:∀x,aG (aDw x)=true:=λx=>by simp only[aDw,aG,AV.noRef,d8,aC bO]
def aQy(x:DCore):List AV:=[.own 3 1 (x9 x.Regs) (fl (eI .i64) x.Regs),.int .i64 x.Pc,.int .i64 x.Root,.int .i64 x.Vector,.int .i64 x.Saved,.bool x.SavedUser,.int .i64 x.Cause,.int .i64 x.Bad,.int .i64 x.Timer,.bool x.Waits,.bool x.User,.bool x.On,.bool x.Stopped]
theorem aNo:∀x,aG (aQy x)=true:=λx=>by simp only[aQy,aG,AV.noRef,d8,aC bO]
theorem bJi:∀x,aN (aQy x)=true:=λx=>by simp only[aQy,aN,AV.noBor,d8,bK aHx]
theorem bZa:oG aQy aLg:=λx H r π j h=>(aJ (eT (e:=3) rfl cG dN dB (h 0 _ rfl)) (aJ (aE rfl) (aJ (aE rfl) (aJ (aE rfl) (aJ (aE rfl) (aJ (aE rfl) (aJ (aE rfl) (aJ (aE rfl) (aJ (aE rfl) (aJ (aE rfl) (aJ (aE rfl) (aJ (aE rfl) (aJ (aE rfl) yY)))))))))))))
def aRf(x:DBare):List AV:=[.own 3 1 (x9 x.C.Regs) (fl (eI .i64) x.C.Regs),.int .i64 x.C.Pc,.int .i64 x.C.Root,.int .i64 x.C.Vector,.int .i64 x.C.Saved,.bool x.C.SavedUser,.int .i64 x.C.Cause,.int .i64 x.C.Bad,.int .i64 x.C.Timer,.bool x.C.Waits,.bool x.C.User,.bool x.C.On,.bool x.C.Stopped,.own 3 1 (x9 x.Mem) (fl (eI .i64) x.Mem),.own 3 1 (x9 x.In) (fl (eI .i64) x.In),.own 3 1 (x9 x.Out) (fl (eI .i64) x.Out)]
theorem aNk:∀x,aG (aRf x)=true:=λx=>by simp only[aRf,aG,AV.noRef,d8,aC bO]
theorem bIm:∀x,aN (aRf x)=true:=λx=>by simp only[aRf,aN,AV.noBor,d8,bK aHx]
theorem bYt:oG aRf tI:=λx H r π j h=>(aJ (eT (e:=3) rfl cG dN dB (h 0 _ rfl)) (aJ (aE rfl) (aJ (aE rfl) (aJ (aE rfl) (aJ (aE rfl) (aJ (aE rfl) (aJ (aE rfl) (aJ (aE rfl) (aJ (aE rfl) (aJ (aE rfl) (aJ (aE rfl) (aJ (aE rfl) (aJ (aE rfl) (aJ (eT (e:=3) rfl cG dN dB (h 13 _ rfl)) (aJ (eT (e:=3) rfl cG dN dB (h 14 _ rfl)) (aJ (eT (e:=3) rfl cG dN dB (h 15 _ rfl)) yY))))))))))))))))
def aIq(x:Dl20Rd):List AV:=[.own 5 1 (x9 x.b) (fl (eI .u8) x.b),.int .i64 x.p]
theorem aHn:∀x,aG (aIq x)=true:=λx=>by simp only[aIq,aG,AV.noRef,d8,aC bO]
theorem bAn:∀x,aN (aIq x)=true:=λx=>by simp only[aIq,aN,AV.noBor,d8,bK aHx]
theorem bSt:oG aIq aEh:=λx H r π j h=>(aJ (eT (e:=5) rfl cG dN dB (h 0 _ rfl)) (aJ (aE rfl) yY))
def aIl(x:DCore):List AV:=[.own 3 1 (x9 x.Regs) (fl (eI .i64) x.Regs),.int .i64 x.Pc,.int .i64 x.Root,.int .i64 x.Vector,.int .i64 x.Saved,.bool x.SavedUser,.int .i64 x.Cause,.int .i64 x.Bad,.int .i64 x.Timer,.bool x.Waits,.bool x.User,.bool x.On,.bool x.Stopped]
theorem aIo:∀x,aG (aIl x)=true:=λx=>by simp only[aIl,aG,AV.noRef,d8,aC bO]
theorem bEf:∀x,aN (aIl x)=true:=λx=>by simp only[aIl,aN,AV.noBor,d8,bK aHx]
theorem bTu:oG aIl aDw:=λx H r π j h=>(aJ (eT (e:=3) rfl cG dN dB (h 0 _ rfl)) (aJ (aE rfl) (aJ (aE rfl) (aJ (aE rfl) (aJ (aE rfl) (aJ (aE rfl) (aJ (aE rfl) (aJ (aE rfl) (aJ (aE rfl) (aJ (aE rfl) (aJ (aE rfl) (aJ (aE rfl) (aJ (aE rfl) yY)))))))))))))
def cIp(x:DCore)(us:List AV):List AV:= .int .i64 x.Pc:: .int .i64 x.Root:: .int .i64 x.Vector:: .int .i64 x.Saved:: .bool x.SavedUser:: .int .i64 x.Cause:: .int .i64 x.Bad:: .int .i64 x.Timer:: .bool x.Waits:: .bool x.User:: .bool x.On:: .bool x.Stopped::us
def jO(us:List AV):List AV:= .int .i64 (0:Int):: .int .i64 (0:Int):: .int .i64 (0:Int):: .int .i64 (0:Int):: .bool false:: .int .i64 (0:Int):: .int .i64 (0:Int):: .int .i64 (0:Int):: .bool false:: .bool false:: .bool false:: .bool false::us
def cFi(x:DShade)(us:List AV):List AV:= .bool x.There:: .bool x.Write:: .bool x.User:: .int .i64 x.Page:: .int .i64 x.Frame:: .bool x.Ready::us
def cEc(us:List AV):List AV:= .bool false:: .bool false:: .bool false:: .int .i64 (0:Int):: .int .i64 (0:Int):: .bool false::us
def cFb(x:DEntry)(us:List AV):List AV:= .bool x.There:: .bool x.Write:: .bool x.User:: .int .i64 x.Page::us
def cDw(us:List AV):List AV:= .bool false:: .bool false:: .bool false:: .int .i64 (0:Int)::us
def cEt(x:DCore)(us:List AV):List AV:= .int .i64 x.Pc:: .int .i64 x.Root:: .int .i64 x.Vector:: .int .i64 x.Saved:: .bool x.SavedUser:: .int .i64 x.Cause:: .int .i64 x.Bad:: .int .i64 x.Timer:: .bool x.Waits:: .bool x.User:: .bool x.On:: .bool x.Stopped::us
def cDm(us:List AV):List AV:= .int .i64 (0:Int):: .int .i64 (0:Int):: .int .i64 (0:Int):: .int .i64 (0:Int):: .bool false:: .int .i64 (0:Int):: .int .i64 (0:Int):: .int .i64 (0:Int):: .bool false:: .bool false:: .bool false:: .bool false::us
theorem rz{ρ:Nat->Option Nat}{n:Nat}{vs us:List AV}(h:Rens ρ n vs us:=by repeat first|exact iA|refine cBr ?_|refine cDn ?_|refine aW bZc ?_|refine aW (oS ?_) ?_|refine aW (aNe dd rfl) ?_|refine aW wH ?_|refine aW (bAj dd rfl rfl) ?_|refine aW (bS (aL (aC aHi))) ?_|refine aW (bS (aL (aC aHd))) ?_|refine aW (bS (aL (aC yA))) ?_|refine aW (bS (aL (aC aNf))) ?_|refine aW (bS (aL (aC aMk))) ?_|refine aW (bS (aL (aC aMz))) ?_|refine aW (bS (aL (aC aNp))) ?_|refine aW (bS (aL (aC aMl))) ?_|refine aW (bS (aL (aC aMy))) ?_|refine aW (bS (aL (aC aCg))) ?_|refine aW (bS (aL (aC aGr))) ?_|refine aW (bS (aL (aC aIr))) ?_|refine aW (bS (aL (aC aIj))) ?_|refine aW (bS (aL (aC aGu))) ?_|refine aW (bS (aL (aC yB))) ?_|refine aW (bS (aL (aC aNn))) ?_|refine aW (bS (aL (aC aNh))) ?_|refine aW (bS (aL (aC oF))) ?_|refine aW (bS (aL (aC aHn))) ?_|refine aW (bS (aL (aC aIo))) ?_|refine aW (bS (aL (aC yC))) ?_|refine aW (bS (aL (aC aNo))) ?_|refine aW (bS (aL (aC aNk))) ?_|refine aW (bS (aL (aC gX))) ?_|refine aW (bS (aL (aC bO))) ?_|refine aW (bS (aL (aC aEc))) ?_):Rens ρ n vs us:=h
theorem nrr{p:Prop}(h:p:=by simp only[cFi,cEt,cFb,cIp,cEc,cDm,cDw,jO,AV.noRef,aG,AV.noBor,aN,Bool.and_self,aC aHi,aC aHd,aC yA,aC aNf,aC aMk,aC aMz,aC aNp,aC aMl,aC aMy,aC aCg,aC aGr,aC aIr,aC aIj,aC aGu,aC yB,aC aNn,aC aNh,aC oF,aC aHn,aC aIo,aC yC,aC aNo,aC aNk,aC gX,aC bO,aC aEc,aHi,aHd,yA,aNf,aMk,aMz,aNp,aMl,aMy,aCg,aGr,aIr,aIj,aGu,yB,aNn,aNh,oF,aHn,aIo,yC,aNo,aNk,gX,bK bCl,bK bEt,bK bBq,bK bEu,bK aRj,bK bJa,bK bIw,bK aWc,bK bAn,bK bEf,bK bCz,bK bJi,bK bIm,bK bIu,bK aHx,bK cEy,bCl,bEt,bBq,bEu,aRj,bJa,bIw,aWc,bAn,bEf,bCz,bJi,bIm,bIu]):p:=h
abbrev zc0:List AV:=[bb false,.nil,ii 0,ii 0,ii 0,ii 0,bb false,ii 0,ii 0,ii 0,bb false,bb false,bb false,bb false,.nil,.nil,.nil]
abbrev rI_3(x:List Int):Root:=⟨3,fl (eI .i64) x⟩
abbrev rC91(x:List DSlot):Root:=⟨91,fl dP x⟩
abbrev rO94(x:List DGuest):Root:=⟨94,fl dO x⟩
abbrev rB26(x:DHost):Root:=⟨26,dE x⟩
abbrev rT_4(x:List Bool):Root:=⟨4,fl eB x⟩
end Go.Proofs.YtcgggihjcelmhaaGreat
