/- The types of the plain functions. Made by program. -/
import Derived.Test.YtcgggihjcelmhaaZY
import Derived.Test.YtcgggihjcelmhaaProg
namespace Go.Proofs.Ytcgggihjcelmhaa
open Go.RowKit
set_option maxRecDepth 100000
set_option linter.all false
set_option maxHeartbeats 0
noncomputable def rg:=bTx Try.prog
abbrev LW(k:Nat)(L:LFun):Prop:=iU Try.prog k=some L
structure DCore where
 Regs:List Int
 Pc:Int
 Root:Int
 Vector:Int
 Saved:Int
 SavedUser:Bool
 Cause:Int
 Bad:Int
 Timer:Int
 Waits:Bool
 User:Bool
 On:Bool
 Stopped:Bool
deriving Inhabited
structure DSlot where
 Frame:Int
 Write:Bool
 Dirty:Bool
deriving Inhabited
structure DGuest where
 Live:Bool
 C:DCore
 Pages:List DSlot
 In:List Int
 Out:List Int
deriving Inhabited
structure DHost where
 Words:List Int
 Guests:List DGuest
deriving Inhabited
structure DMove where
 From:DHost
 To:DHost
 G:Int
 N:Int
 Left:List Bool
deriving Inhabited
structure DBare where
 C:DCore
 Mem:List Int
 In:List Int
 Out:List Int
deriving Inhabited
structure DAct where
 Kind:Int
 Page:Int
deriving Inhabited
structure Dl20Rd where
 b:List Int
 p:Int
deriving Inhabited
structure DIns where
 Op:Int
 A:Int
 N:Int
deriving Inhabited
structure DShade where
 There:Bool
 Write:Bool
 User:Bool
 Page:Int
 Frame:Int
 Ready:Bool
deriving Inhabited
structure DEntry where
 There:Bool
 Write:Bool
 User:Bool
 Page:Int
deriving Inhabited
structure DExit where
 Why:Int
 Page:Int
 What:DIns
deriving Inhabited
def pQ(x:DBare):List AV:=[bo (eI .i64) x.C.Regs,.int .i64 x.C.Pc,.int .i64 x.C.Root,.int .i64 x.C.Vector,.int .i64 x.C.Saved,.bool x.C.SavedUser,.int .i64 x.C.Cause,.int .i64 x.C.Bad,.int .i64 x.C.Timer,.bool x.C.Waits,.bool x.C.User,.bool x.C.On,.bool x.C.Stopped,bo (eI .i64) x.Mem,bo (eI .i64) x.In,bo (eI .i64) x.Out]
theorem aZr:∀x,noOwn (pQ x)=true:=λ_=>rfl
theorem aQk:∀x,aX (pQ x)=true:=λx=>by simp only[pQ,aX,AV.clean,Bool.and_self,bV dC]
theorem aIl:∀x,aG (pQ x)=true:=λx=>by simp only[pQ,aG,AV.noRef,Bool.and_self,aB aW]
def aGu(x:DCore):List AV:=[bo (eI .i64) x.Regs,.int .i64 x.Pc,.int .i64 x.Root,.int .i64 x.Vector,.int .i64 x.Saved,.bool x.SavedUser,.int .i64 x.Cause,.int .i64 x.Bad,.int .i64 x.Timer,.bool x.Waits,.bool x.User,.bool x.On,.bool x.Stopped]
theorem bBg:∀x,noOwn (aGu x)=true:=λ_=>rfl
theorem bBk:∀x,aX (aGu x)=true:=λx=>by simp only[aGu,aX,AV.clean,Bool.and_self,bV dC]
theorem aIo:∀x,aG (aGu x)=true:=λx=>by simp only[aGu,aG,AV.noRef,Bool.and_self,aB aW]
def eV(x:DSlot):List AV:=[.int .i64 x.Frame,.bool x.Write,.bool x.Dirty]
theorem zQ:∀x,(eV x).length=3:=λ_=>rfl
theorem aIa:∀x,noOwn (eV x)=true:=λ_=>rfl
theorem aCa:∀x,aX (eV x)=true:=λ_=>rfl
theorem lN:∀x,aG (eV x)=true:=λ_=>rfl
theorem aQi:∀x,aT (eV x)=true:=λ_=>rfl
def fM(x:DGuest):List AV:=[.bool x.Live,bo (eI .i64) x.C.Regs,.int .i64 x.C.Pc,.int .i64 x.C.Root,.int .i64 x.C.Vector,.int .i64 x.C.Saved,.bool x.C.SavedUser,.int .i64 x.C.Cause,.int .i64 x.C.Bad,.int .i64 x.C.Timer,.bool x.C.Waits,.bool x.C.User,.bool x.C.On,.bool x.C.Stopped,bo eV x.Pages,bo (eI .i64) x.In,bo (eI .i64) x.Out]
theorem aUe:∀x,(fM x).length=17:=λ_=>rfl
theorem aYz:∀x,noOwn (fM x)=true:=λ_=>rfl
theorem aBr:∀x,aX (fM x)=true:=λx=>by simp only[fM,aX,AV.clean,Bool.and_self,bV dC,bV aCa]
theorem yJ:∀x,aG (fM x)=true:=λx=>by simp only[fM,aG,AV.noRef,Bool.and_self,aB aW,aB lN]
def eD(x:DHost):List AV:=[bo (eI .i64) x.Words,bo fM x.Guests]
theorem bBa:∀x,noOwn (eD x)=true:=λ_=>rfl
theorem oZ:∀x,aX (eD x)=true:=λx=>by simp only[eD,aX,AV.clean,Bool.and_self,bV dC,bV aBr]
theorem aIm:∀x,aG (eD x)=true:=λx=>by simp only[eD,aG,AV.noRef,Bool.and_self,aB aW,aB yJ]
def xK(x:DSlot):List AV:=[.int .i64 x.Frame,.bool x.Write,.bool x.Dirty]
theorem aRj:∀x,(xK x).length=3:=λ_=>rfl
theorem aEs:∀x,noOwn (xK x)=true:=λ_=>rfl
theorem aDq:∀x,aX (xK x)=true:=λ_=>rfl
theorem tY:∀x,aG (xK x)=true:=λ_=>rfl
theorem aMk:∀x,aT (xK x)=true:=λ_=>rfl
def tK(x:DGuest):List AV:=[.bool x.Live,bo (eI .i64) x.C.Regs,.int .i64 x.C.Pc,.int .i64 x.C.Root,.int .i64 x.C.Vector,.int .i64 x.C.Saved,.bool x.C.SavedUser,.int .i64 x.C.Cause,.int .i64 x.C.Bad,.int .i64 x.C.Timer,.bool x.C.Waits,.bool x.C.User,.bool x.C.On,.bool x.C.Stopped,bo xK x.Pages,bo (eI .i64) x.In,bo (eI .i64) x.Out]
theorem aSz:∀x,noOwn (tK x)=true:=λ_=>rfl
theorem aDn:∀x,aX (tK x)=true:=λx=>by simp only[tK,aX,AV.clean,Bool.and_self,bV dC,bV aDq]
theorem tX:∀x,aG (tK x)=true:=λx=>by simp only[tK,aG,AV.noRef,Bool.and_self,aB aW,aB tY]
def bG(x:DGuest):List AV:=[.bool x.Live,.own 3 1 (List.length x.C.Regs) (fl (eI .i64) x.C.Regs),.int .i64 x.C.Pc,.int .i64 x.C.Root,.int .i64 x.C.Vector,.int .i64 x.C.Saved,.bool x.C.SavedUser,.int .i64 x.C.Cause,.int .i64 x.C.Bad,.int .i64 x.C.Timer,.bool x.C.Waits,.bool x.C.User,.bool x.C.On,.bool x.C.Stopped,.own 66 3 (List.length x.Pages) (fl eV x.Pages),.own 3 1 (List.length x.In) (fl (eI .i64) x.In),.own 3 1 (List.length x.Out) (fl (eI .i64) x.Out)]
theorem bM:∀x,(bG x).length=17:=λ_=>rfl
theorem cL:∀x,aG (bG x)=true:=λx=>by simp only[bG,aG,AV.noRef,Bool.and_self,aB aW,aB lN]
theorem bBp:∀x,aT (bG x)=true:=λx=>by simp only[bG,aT,AV.noBor,Bool.and_self,bU aCq,bU aQi]
theorem aCn:lO bG fM:=λx H r π j h=>(aK (aE rfl) (aK (dM (e:=3) rfl cH dE dC (h 1 _ rfl)) (aK (aE rfl) (aK (aE rfl) (aK (aE rfl) (aK (aE rfl) (aK (aE rfl) (aK (aE rfl) (aK (aE rfl) (aK (aE rfl) (aK (aE rfl) (aK (aE rfl) (aK (aE rfl) (aK (aE rfl) (aK (dM (e:=66) rfl zQ aIa aCa (h 14 _ rfl)) (aK (dM (e:=3) rfl cH dE dC (h 15 _ rfl)) (aK (dM (e:=3) rfl cH dE dC (h 16 _ rfl)) qB)))))))))))))))))
def nE(x:DShade):List AV:=[.bool x.There,.bool x.Write,.bool x.User,.int .i64 x.Page,.int .i64 x.Frame,.bool x.Ready]
theorem aHo:∀x,(nE x).length=6:=λ_=>rfl
theorem aCw:∀x,noOwn (nE x)=true:=λ_=>rfl
theorem aCy:∀x,aX (nE x)=true:=λ_=>rfl
theorem nS:∀x,aG (nE x)=true:=λ_=>rfl
theorem aTg:∀x,aT (nE x)=true:=λ_=>rfl
def aIi(x:DEntry):List AV:=[.bool x.There,.bool x.Write,.bool x.User,.int .i64 x.Page]
theorem aWs:∀x,noOwn (aIi x)=true:=λ_=>rfl
theorem aXc:∀x,aX (aIi x)=true:=λ_=>rfl
theorem aEh:∀x,aG (aIi x)=true:=λ_=>rfl
theorem aWj:∀x,aT (aIi x)=true:=λ_=>rfl
def dV(x:DIns):List AV:=[.int .i64 x.Op,.int .i64 x.A,.int .i64 x.N]
theorem aTy:∀x,noOwn (dV x)=true:=λ_=>rfl
theorem aWz:∀x,aX (dV x)=true:=λ_=>rfl
theorem oI:∀x,aG (dV x)=true:=λ_=>rfl
theorem aWf:∀x,aT (dV x)=true:=λ_=>rfl
def aHu(x:DExit):List AV:=[.int .i64 x.Why,.int .i64 x.Page,.int .i64 x.What.Op,.int .i64 x.What.A,.int .i64 x.What.N]
theorem aVt:∀x,noOwn (aHu x)=true:=λ_=>rfl
theorem aWu:∀x,aX (aHu x)=true:=λ_=>rfl
theorem aDw:∀x,aG (aHu x)=true:=λ_=>rfl
theorem aUd:∀x,aT (aHu x)=true:=λ_=>rfl
def aLq(x:DMove):List AV:=[bo (eI .i64) x.From.Words,bo fM x.From.Guests,bo (eI .i64) x.To.Words,bo fM x.To.Guests,.int .i64 x.G,.int .i64 x.N,bo eB x.Left]
theorem bBb:∀x,noOwn (aLq x)=true:=λ_=>rfl
theorem bBc:∀x,aX (aLq x)=true:=λx=>by simp only[aLq,aX,AV.clean,Bool.and_self,bV dC,bV aBr,bV aSi]
theorem aIr:∀x,aG (aLq x)=true:=λx=>by simp only[aLq,aG,AV.noRef,Bool.and_self,aB aW,aB yJ,aB zZ]
def aIp(x:DAct):List AV:=[.int .i64 x.Kind,.int .i64 x.Page]
theorem aVx:∀x,noOwn (aIp x)=true:=λ_=>rfl
theorem aWx:∀x,aX (aIp x)=true:=λ_=>rfl
theorem aCs:∀x,aG (aIp x)=true:=λ_=>rfl
theorem aVf:∀x,aT (aIp x)=true:=λ_=>rfl
def aAm(x:Dl20Rd):List AV:=[bo (eI .u8) x.b,.int .i64 x.p]
theorem aTj:∀x,noOwn (aAm x)=true:=λ_=>rfl
theorem aSx:∀x,aX (aAm x)=true:=λx=>by simp only[aAm,aX,AV.clean,Bool.and_self,bV dC]
theorem aDv:∀x,aG (aAm x)=true:=λx=>by simp only[aAm,aG,AV.noRef,Bool.and_self,aB aW]
def aLe(x:DHost):List AV:=[bo (eI .i64) x.Words,bo tK x.Guests]
theorem aZn:∀x,noOwn (aLe x)=true:=λ_=>rfl
theorem aZv:∀x,aX (aLe x)=true:=λx=>by simp only[aLe,aX,AV.clean,Bool.and_self,bV dC,bV aDn]
theorem aIj:∀x,aG (aLe x)=true:=λx=>by simp only[aLe,aG,AV.noRef,Bool.and_self,aB aW,aB tX]
def aKs(x:DMove):List AV:=[bo (eI .i64) x.From.Words,bo tK x.From.Guests,bo (eI .i64) x.To.Words,bo tK x.To.Guests,.int .i64 x.G,.int .i64 x.N,bo eB x.Left]
theorem bAs:∀x,noOwn (aKs x)=true:=λ_=>rfl
theorem bBv:∀x,aX (aKs x)=true:=λx=>by simp only[aKs,aX,AV.clean,Bool.and_self,bV dC,bV aDn,bV aSi]
theorem aIn:∀x,aG (aKs x)=true:=λx=>by simp only[aKs,aG,AV.noRef,Bool.and_self,aB aW,aB tX,aB zZ]
def aAs(x:DCore):List AV:=[bo (eI .i64) x.Regs,.int .i64 x.Pc,.int .i64 x.Root,.int .i64 x.Vector,.int .i64 x.Saved,.bool x.SavedUser,.int .i64 x.Cause,.int .i64 x.Bad,.int .i64 x.Timer,.bool x.Waits,.bool x.User,.bool x.On,.bool x.Stopped]
theorem aTz:∀x,noOwn (aAs x)=true:=λ_=>rfl
theorem aVm:∀x,aX (aAs x)=true:=λx=>by simp only[aAs,aX,AV.clean,Bool.and_self,bV dC]
theorem aEw:∀x,aG (aAs x)=true:=λx=>by simp only[aAs,aG,AV.noRef,Bool.and_self,aB aW]
def aKp(x:DCore):List AV:=[.own 3 1 (List.length x.Regs) (fl (eI .i64) x.Regs),.int .i64 x.Pc,.int .i64 x.Root,.int .i64 x.Vector,.int .i64 x.Saved,.bool x.SavedUser,.int .i64 x.Cause,.int .i64 x.Bad,.int .i64 x.Timer,.bool x.Waits,.bool x.User,.bool x.On,.bool x.Stopped]
theorem aIh:∀x,aG (aKp x)=true:=λx=>by simp only[aKp,aG,AV.noRef,Bool.and_self,aB aW]
theorem bAv:∀x,aT (aKp x)=true:=λx=>by simp only[aKp,aT,AV.noBor,Bool.and_self,bU aCq]
theorem bNl:lO aKp aGu:=λx H r π j h=>(aK (dM (e:=3) rfl cH dE dC (h 0 _ rfl)) (aK (aE rfl) (aK (aE rfl) (aK (aE rfl) (aK (aE rfl) (aK (aE rfl) (aK (aE rfl) (aK (aE rfl) (aK (aE rfl) (aK (aE rfl) (aK (aE rfl) (aK (aE rfl) (aK (aE rfl) qB)))))))))))))
def aLj(x:DBare):List AV:=[.own 3 1 (List.length x.C.Regs) (fl (eI .i64) x.C.Regs),.int .i64 x.C.Pc,.int .i64 x.C.Root,.int .i64 x.C.Vector,.int .i64 x.C.Saved,.bool x.C.SavedUser,.int .i64 x.C.Cause,.int .i64 x.C.Bad,.int .i64 x.C.Timer,.bool x.C.Waits,.bool x.C.User,.bool x.C.On,.bool x.C.Stopped,.own 3 1 (List.length x.Mem) (fl (eI .i64) x.Mem),.own 3 1 (List.length x.In) (fl (eI .i64) x.In),.own 3 1 (List.length x.Out) (fl (eI .i64) x.Out)]
theorem aHy:∀x,aG (aLj x)=true:=λx=>by simp only[aLj,aG,AV.noRef,Bool.and_self,aB aW]
theorem aZt:∀x,aT (aLj x)=true:=λx=>by simp only[aLj,aT,AV.noBor,Bool.and_self,bU aCq]
theorem bOo:lO aLj pQ:=λx H r π j h=>(aK (dM (e:=3) rfl cH dE dC (h 0 _ rfl)) (aK (aE rfl) (aK (aE rfl) (aK (aE rfl) (aK (aE rfl) (aK (aE rfl) (aK (aE rfl) (aK (aE rfl) (aK (aE rfl) (aK (aE rfl) (aK (aE rfl) (aK (aE rfl) (aK (aE rfl) (aK (dM (e:=3) rfl cH dE dC (h 13 _ rfl)) (aK (dM (e:=3) rfl cH dE dC (h 14 _ rfl)) (aK (dM (e:=3) rfl cH dE dC (h 15 _ rfl)) qB))))))))))))))))
def aEt(x:Dl20Rd):List AV:=[.own 5 1 (List.length x.b) (fl (eI .u8) x.b),.int .i64 x.p]
theorem aDl:∀x,aG (aEt x)=true:=λx=>by simp only[aEt,aG,AV.noRef,Bool.and_self,aB aW]
theorem aTo:∀x,aT (aEt x)=true:=λx=>by simp only[aEt,aT,AV.noBor,Bool.and_self,bU aCq]
theorem bLe:lO aEt aAm:=λx H r π j h=>(aK (dM (e:=5) rfl cH dE dC (h 0 _ rfl)) (aK (aE rfl) qB))
def aDo(x:DCore):List AV:=[.own 3 1 (List.length x.Regs) (fl (eI .i64) x.Regs),.int .i64 x.Pc,.int .i64 x.Root,.int .i64 x.Vector,.int .i64 x.Saved,.bool x.SavedUser,.int .i64 x.Cause,.int .i64 x.Bad,.int .i64 x.Timer,.bool x.Waits,.bool x.User,.bool x.On,.bool x.Stopped]
theorem aEx:∀x,aG (aDo x)=true:=λx=>by simp only[aDo,aG,AV.noRef,Bool.and_self,aB aW]
theorem aXq:∀x,aT (aDo x)=true:=λx=>by simp only[aDo,aT,AV.noBor,Bool.and_self,bU aCq]
theorem bJf:lO aDo aAs:=λx H r π j h=>(aK (dM (e:=3) rfl cH dE dC (h 0 _ rfl)) (aK (aE rfl) (aK (aE rfl) (aK (aE rfl) (aK (aE rfl) (aK (aE rfl) (aK (aE rfl) (aK (aE rfl) (aK (aE rfl) (aK (aE rfl) (aK (aE rfl) (aK (aE rfl) (aK (aE rfl) qB)))))))))))))
def uW(x:DGuest):List AV:=[.bool x.Live,.own 3 1 (List.length x.C.Regs) (fl (eI .i64) x.C.Regs),.int .i64 x.C.Pc,.int .i64 x.C.Root,.int .i64 x.C.Vector,.int .i64 x.C.Saved,.bool x.C.SavedUser,.int .i64 x.C.Cause,.int .i64 x.C.Bad,.int .i64 x.C.Timer,.bool x.C.Waits,.bool x.C.User,.bool x.C.On,.bool x.C.Stopped,.own 172 3 (List.length x.Pages) (fl xK x.Pages),.own 3 1 (List.length x.In) (fl (eI .i64) x.In),.own 3 1 (List.length x.Out) (fl (eI .i64) x.Out)]
theorem uG:∀x,aG (uW x)=true:=λx=>by simp only[uW,aG,AV.noRef,Bool.and_self,aB aW,aB tY]
theorem aUh:∀x,aT (uW x)=true:=λx=>by simp only[uW,aT,AV.noBor,Bool.and_self,bU aCq,bU aMk]
theorem bKg:lO uW tK:=λx H r π j h=>(aK (aE rfl) (aK (dM (e:=3) rfl cH dE dC (h 1 _ rfl)) (aK (aE rfl) (aK (aE rfl) (aK (aE rfl) (aK (aE rfl) (aK (aE rfl) (aK (aE rfl) (aK (aE rfl) (aK (aE rfl) (aK (aE rfl) (aK (aE rfl) (aK (aE rfl) (aK (aE rfl) (aK (dM (e:=172) rfl aRj aEs aDq (h 14 _ rfl)) (aK (dM (e:=3) rfl cH dE dC (h 15 _ rfl)) (aK (dM (e:=3) rfl cH dE dC (h 16 _ rfl)) qB)))))))))))))))))
def cP(x:DCore)(us:List AV):List AV:= .int .i64 x.Pc:: .int .i64 x.Root:: .int .i64 x.Vector:: .int .i64 x.Saved:: .bool x.SavedUser:: .int .i64 x.Cause:: .int .i64 x.Bad:: .int .i64 x.Timer:: .bool x.Waits:: .bool x.User:: .bool x.On:: .bool x.Stopped::us
def oT(us:List AV):List AV:= .int .i64 (0:Int):: .int .i64 (0:Int):: .int .i64 (0:Int):: .int .i64 (0:Int):: .bool false:: .int .i64 (0:Int):: .int .i64 (0:Int):: .int .i64 (0:Int):: .bool false:: .bool false:: .bool false:: .bool false::us
def bTd(x:DShade)(us:List AV):List AV:= .bool x.There:: .bool x.Write:: .bool x.User:: .int .i64 x.Page:: .int .i64 x.Frame:: .bool x.Ready::us
def bQh(us:List AV):List AV:= .bool false:: .bool false:: .bool false:: .int .i64 (0:Int):: .int .i64 (0:Int):: .bool false::us
def bSu(x:DEntry)(us:List AV):List AV:= .bool x.There:: .bool x.Write:: .bool x.User:: .int .i64 x.Page::us
def bSe(us:List AV):List AV:= .bool false:: .bool false:: .bool false:: .int .i64 (0:Int)::us
def bSz(x:DCore)(us:List AV):List AV:= .int .i64 x.Pc:: .int .i64 x.Root:: .int .i64 x.Vector:: .int .i64 x.Saved:: .bool x.SavedUser:: .int .i64 x.Cause:: .int .i64 x.Bad:: .int .i64 x.Timer:: .bool x.Waits:: .bool x.User:: .bool x.On:: .bool x.Stopped::us
def bQo(us:List AV):List AV:= .int .i64 (0:Int):: .int .i64 (0:Int):: .int .i64 (0:Int):: .int .i64 (0:Int):: .bool false:: .int .i64 (0:Int):: .int .i64 (0:Int):: .int .i64 (0:Int):: .bool false:: .bool false:: .bool false:: .bool false::us
theorem rz{ρ:Nat->Option Nat}{n:Nat}{vs us:List AV}(h:Rens ρ n vs us:=by repeat first|exact gM|refine bQt ?_|refine bPr ?_|refine aY bNt ?_|refine aY (gY ?_) ?_|refine aY (aEl dd rfl) ?_|refine aY aCl ?_|refine aY (aTi dd rfl rfl) ?_|refine aY (cE (aN (aB aDv))) ?_|refine aY (cE (aN (aB aEw))) ?_|refine aY (cE (aN (aB tX))) ?_|refine aY (cE (aN (aB aIm))) ?_|refine aY (cE (aN (aB aIr))) ?_|refine aY (cE (aN (aB aIj))) ?_|refine aY (cE (aN (aB aIn))) ?_|refine aY (cE (aN (aB aIo))) ?_|refine aY (cE (aN (aB yJ))) ?_|refine aY (cE (aN (aB aIl))) ?_|refine aY (cE (aN (aB aCs))) ?_|refine aY (cE (aN (aB oI))) ?_|refine aY (cE (aN (aB nS))) ?_|refine aY (cE (aN (aB aEh))) ?_|refine aY (cE (aN (aB tY))) ?_|refine aY (cE (aN (aB aDw))) ?_|refine aY (cE (aN (aB lN))) ?_|refine aY (cE (aN (aB aDl))) ?_|refine aY (cE (aN (aB aEx))) ?_|refine aY (cE (aN (aB uG))) ?_|refine aY (cE (aN (aB aIh))) ?_|refine aY (cE (aN (aB cL))) ?_|refine aY (cE (aN (aB aHy))) ?_|refine aY (cE (aN (aB aW))) ?_|refine aY (cE (aN (aB zZ))) ?_):Rens ρ n vs us:=h
theorem nrr{p:Prop}(h:p:=by simp only[bSz,bTd,bSu,cP,bQo,bQh,bSe,oT,AV.noRef,aG,AV.noBor,aT,Bool.and_self,aB aDv,aB aEw,aB tX,aB aIm,aB aIr,aB aIj,aB aIn,aB aIo,aB yJ,aB aIl,aB aCs,aB oI,aB nS,aB aEh,aB tY,aB aDw,aB lN,aB aDl,aB aEx,aB uG,aB aIh,aB cL,aB aHy,aB aW,aB zZ,aDv,aEw,tX,aIm,aIr,aIj,aIn,aIo,yJ,aIl,aCs,oI,nS,aEh,tY,aDw,lN,aDl,aEx,uG,aIh,cL,aHy,bU aVf,bU aWf,bU aTg,bU aWj,bU aMk,bU aUd,bU aQi,bU aTo,bU aXq,bU aUh,bU bAv,bU bBp,bU aZt,bU aCq,bU bTe,aVf,aWf,aTg,aWj,aMk,aUd,aQi,aTo,aXq,aUh,bAv,bBp,aZt]):p:=h
abbrev zc0:List AV:=[bb false,.nil,ii 0,ii 0,ii 0,ii 0,bb false,ii 0,ii 0,ii 0,bb false,bb false,bb false,bb false,.nil,.nil,.nil]
abbrev rI_3(x:List Int):Root:=⟨3,fl (eI .i64) x⟩
abbrev rC66(x:List DSlot):Root:=⟨66,fl eV x⟩
abbrev rO64(x:List DGuest):Root:=⟨64,fl bG x⟩
abbrev rB26(x:DHost):Root:=⟨26,eD x⟩
abbrev rC164(x:List DShade):Root:=⟨164,fl nE x⟩
abbrev rT_4(x:List Bool):Root:=⟨4,fl eB x⟩
end Go.Proofs.Ytcgggihjcelmhaa
