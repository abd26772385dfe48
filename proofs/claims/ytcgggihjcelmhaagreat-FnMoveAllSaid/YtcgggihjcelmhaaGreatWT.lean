/- The types of the plain functions. Made by program. -/
import Derived.Test.YtcgggihjcelmhaaGreatZY
import Derived.Test.YtcgggihjcelmhaaGreatProg
namespace Go.Proofs.YtcgggihjcelmhaaGreat
open List renaming length → x9
open Bool renaming and_self → d8
open Go.RowKit
set_option maxRecDepth 100000
set_option linter.all false
set_option maxHeartbeats 0
noncomputable def rg:=cGi Tryz.prog
abbrev LW(k:Nat)(L:LFun):Prop:=kP Tryz.prog k=some L
structure DCore where
 Regs:List Int
 Pc:Int
 Root:Int
 Vector:Int
 Saved:Int
 SavedUser:Bool
 Cause:Int
 Bad:Int
 Timer:Int
 Waits:Bool
 User:Bool
 On:Bool
 Stopped:Bool
deriving Inhabited
structure DSlot where
 Frame:Int
 Write:Bool
 Dirty:Bool
deriving Inhabited
structure DGuest where
 Live:Bool
 C:DCore
 Pages:List DSlot
 In:List Int
 Out:List Int
deriving Inhabited
structure DHost where
 Words:List Int
 Guests:List DGuest
deriving Inhabited
structure DMove where
 From:DHost
 To:DHost
 G:Int
 N:Int
 Left:List Bool
deriving Inhabited
structure DAct where
 Kind:Int
 Page:Int
deriving Inhabited
structure DBare where
 C:DCore
 Mem:List Int
 In:List Int
 Out:List Int
deriving Inhabited
structure Dl20Rd where
 b:List Int
 p:Int
deriving Inhabited
structure DIns where
 Op:Int
 A:Int
 N:Int
deriving Inhabited
structure DShade where
 There:Bool
 Write:Bool
 User:Bool
 Page:Int
 Frame:Int
 Ready:Bool
deriving Inhabited
structure DExit where
 Why:Int
 Page:Int
 What:DIns
deriving Inhabited
structure DEntry where
 There:Bool
 Write:Bool
 User:Bool
 Page:Int
deriving Inhabited
def tU(x:DBare):List AV:=[bo (eI .i64) x.C.Regs,.int .i64 x.C.Pc,.int .i64 x.C.Root,.int .i64 x.C.Vector,.int .i64 x.C.Saved,.bool x.C.SavedUser,.int .i64 x.C.Cause,.int .i64 x.C.Bad,.int .i64 x.C.Timer,.bool x.C.Waits,.bool x.C.User,.bool x.C.On,.bool x.C.Stopped,bo (eI .i64) x.Mem,bo (eI .i64) x.In,bo (eI .i64) x.Out]
theorem bHn:∀x,noOwn (tU x)=true:=λ_=>rfl
theorem aXd:∀x,aS (tU x)=true:=λx=>by simp only[tU,aS,AV.clean,d8,bK dC]
theorem aNc:∀x,aG (tU x)=true:=λx=>by simp only[tU,aG,AV.noRef,d8,aC bO]
def aLj(x:DCore):List AV:=[bo (eI .i64) x.Regs,.int .i64 x.Pc,.int .i64 x.Root,.int .i64 x.Vector,.int .i64 x.Saved,.bool x.SavedUser,.int .i64 x.Cause,.int .i64 x.Bad,.int .i64 x.Timer,.bool x.Waits,.bool x.User,.bool x.On,.bool x.Stopped]
theorem bHf:∀x,noOwn (aLj x)=true:=λ_=>rfl
theorem bGp:∀x,aS (aLj x)=true:=λx=>by simp only[aLj,aS,AV.clean,d8,bK dC]
theorem aMl:∀x,aG (aLj x)=true:=λx=>by simp only[aLj,aG,AV.noRef,d8,aC bO]
def dP(x:DSlot):List AV:=[.int .i64 x.Frame,.bool x.Write,.bool x.Dirty]
theorem rI:∀x,(dP x).length=3:=λ_=>rfl
theorem aNt:∀x,noOwn (dP x)=true:=λ_=>rfl
theorem aGj:∀x,aS (dP x)=true:=λ_=>rfl
theorem oO:∀x,aG (dP x)=true:=λ_=>rfl
theorem aXl:∀x,aN (dP x)=true:=λ_=>rfl
def dK(x:DGuest):List AV:=[.bool x.Live,bo (eI .i64) x.C.Regs,.int .i64 x.C.Pc,.int .i64 x.C.Root,.int .i64 x.C.Vector,.int .i64 x.C.Saved,.bool x.C.SavedUser,.int .i64 x.C.Cause,.int .i64 x.C.Bad,.int .i64 x.C.Timer,.bool x.C.Waits,.bool x.C.User,.bool x.C.On,.bool x.C.Stopped,bo dP x.Pages,bo (eI .i64) x.In,bo (eI .i64) x.Out]
theorem aHq:∀x,(dK x).length=17:=λ_=>rfl
theorem bJj:∀x,noOwn (dK x)=true:=λ_=>rfl
theorem aGk:∀x,aS (dK x)=true:=λx=>by simp only[dK,aS,AV.clean,d8,bK dC,bK aGj]
theorem aBx:∀x,aG (dK x)=true:=λx=>by simp only[dK,aG,AV.noRef,d8,aC bO,aC oO]
def dE(x:DHost):List AV:=[bo (eI .i64) x.Words,bo dK x.Guests]
theorem bJg:∀x,noOwn (dE x)=true:=λ_=>rfl
theorem qJ:∀x,aS (dE x)=true:=λx=>by simp only[dE,aS,AV.clean,d8,bK dC,bK aGk]
theorem aNn:∀x,aG (dE x)=true:=λx=>by simp only[dE,aG,AV.noRef,d8,aC bO,aC aBx]
def aBi(x:DSlot):List AV:=[.int .i64 x.Frame,.bool x.Write,.bool x.Dirty]
theorem aYt:∀x,(aBi x).length=3:=λ_=>rfl
theorem aGt:∀x,noOwn (aBi x)=true:=λ_=>rfl
theorem aIc:∀x,aS (aBi x)=true:=λ_=>rfl
theorem xU:∀x,aG (aBi x)=true:=λ_=>rfl
theorem aQc:∀x,aN (aBi x)=true:=λ_=>rfl
def wH(x:DGuest):List AV:=[.bool x.Live,bo (eI .i64) x.C.Regs,.int .i64 x.C.Pc,.int .i64 x.C.Root,.int .i64 x.C.Vector,.int .i64 x.C.Saved,.bool x.C.SavedUser,.int .i64 x.C.Cause,.int .i64 x.C.Bad,.int .i64 x.C.Timer,.bool x.C.Waits,.bool x.C.User,.bool x.C.On,.bool x.C.Stopped,bo aBi x.Pages,bo (eI .i64) x.In,bo (eI .i64) x.Out]
theorem bEm:∀x,noOwn (wH x)=true:=λ_=>rfl
theorem aHh:∀x,aS (wH x)=true:=λx=>by simp only[wH,aS,AV.clean,d8,bK dC,bK aIc]
theorem xN:∀x,aG (wH x)=true:=λx=>by simp only[wH,aG,AV.noRef,d8,aC bO,aC xU]
def dO(x:DGuest):List AV:=[.bool x.Live,.own 3 1 (x9 x.C.Regs) (fl (eI .i64) x.C.Regs),.int .i64 x.C.Pc,.int .i64 x.C.Root,.int .i64 x.C.Vector,.int .i64 x.C.Saved,.bool x.C.SavedUser,.int .i64 x.C.Cause,.int .i64 x.C.Bad,.int .i64 x.C.Timer,.bool x.C.Waits,.bool x.C.User,.bool x.C.On,.bool x.C.Stopped,.own 91 3 (x9 x.Pages) (fl dP x.Pages),.own 3 1 (x9 x.In) (fl (eI .i64) x.In),.own 3 1 (x9 x.Out) (fl (eI .i64) x.Out)]
theorem pM:∀x,(dO x).length=17:=λ_=>rfl
theorem gZ:∀x,aG (dO x)=true:=λx=>by simp only[dO,aG,AV.noRef,d8,aC bO,aC oO]
theorem bIe:∀x,aN (dO x)=true:=λx=>by simp only[dO,aN,AV.noBor,d8,bL aJd,bL aXl]
theorem aWl:oD dO dK:=λx H r π j h=>(aJ (aE rfl) (aJ (eT (e:=3) rfl cH dN dC (h 1 _ rfl)) (aJ (aE rfl) (aJ (aE rfl) (aJ (aE rfl) (aJ (aE rfl) (aJ (aE rfl) (aJ (aE rfl) (aJ (aE rfl) (aJ (aE rfl) (aJ (aE rfl) (aJ (aE rfl) (aJ (aE rfl) (aJ (aE rfl) (aJ (eT (e:=91) rfl rI aNt aGj (h 14 _ rfl)) (aJ (eT (e:=3) rfl cH dN dC (h 15 _ rfl)) (aJ (eT (e:=3) rfl cH dN dC (h 16 _ rfl)) zP)))))))))))))))))
def aMt(x:DShade):List AV:=[.bool x.There,.bool x.Write,.bool x.User,.int .i64 x.Page,.int .i64 x.Frame,.bool x.Ready]
theorem bAr:∀x,noOwn (aMt x)=true:=λ_=>rfl
theorem bAh:∀x,aS (aMt x)=true:=λ_=>rfl
theorem aHo:∀x,aG (aMt x)=true:=λ_=>rfl
theorem bDc:∀x,aN (aMt x)=true:=λ_=>rfl
def aMn(x:DEntry):List AV:=[.bool x.There,.bool x.Write,.bool x.User,.int .i64 x.Page]
theorem bAm:∀x,noOwn (aMn x)=true:=λ_=>rfl
theorem bEf:∀x,aS (aMn x)=true:=λ_=>rfl
theorem aHn:∀x,aG (aMn x)=true:=λ_=>rfl
theorem bEc:∀x,aN (aMn x)=true:=λ_=>rfl
def aNl(x:DIns):List AV:=[.int .i64 x.Op,.int .i64 x.A,.int .i64 x.N]
theorem bFd:∀x,noOwn (aNl x)=true:=λ_=>rfl
theorem bBn:∀x,aS (aNl x)=true:=λ_=>rfl
theorem aHj:∀x,aG (aNl x)=true:=λ_=>rfl
theorem bEg:∀x,aN (aNl x)=true:=λ_=>rfl
def aNm(x:DExit):List AV:=[.int .i64 x.Why,.int .i64 x.Page,.int .i64 x.What.Op,.int .i64 x.What.A,.int .i64 x.What.N]
theorem bDr:∀x,noOwn (aNm x)=true:=λ_=>rfl
theorem bAs:∀x,aS (aNm x)=true:=λ_=>rfl
theorem aIy:∀x,aG (aNm x)=true:=λ_=>rfl
theorem bDj:∀x,aN (aNm x)=true:=λ_=>rfl
def aSg(x:DMove):List AV:=[bo (eI .i64) x.From.Words,bo dK x.From.Guests,bo (eI .i64) x.To.Words,bo dK x.To.Guests,.int .i64 x.G,.int .i64 x.N,bo eB x.Left]
theorem bHb:∀x,noOwn (aSg x)=true:=λ_=>rfl
theorem bJa:∀x,aS (aSg x)=true:=λx=>by simp only[aSg,aS,AV.clean,d8,bK dC,bK aGk,bK aZn]
theorem aNj:∀x,aG (aSg x)=true:=λx=>by simp only[aSg,aG,AV.noRef,d8,aC bO,aC aBx,aC aEq]
def aVn(x:DAct):List AV:=[.int .i64 x.Kind,.int .i64 x.Page]
theorem bGk:∀x,noOwn (aVn x)=true:=λ_=>rfl
theorem bGm:∀x,aS (aVn x)=true:=λ_=>rfl
theorem aMo:∀x,aG (aVn x)=true:=λ_=>rfl
theorem bHq:∀x,aN (aVn x)=true:=λ_=>rfl
def aXg(x:DAct):List AV:=[.int .i64 x.Kind,.int .i64 x.Page]
theorem bIa:∀x,noOwn (aXg x)=true:=λ_=>rfl
theorem bGn:∀x,aS (aXg x)=true:=λ_=>rfl
theorem aNg:∀x,aG (aXg x)=true:=λ_=>rfl
theorem bIt:∀x,aN (aXg x)=true:=λ_=>rfl
def yI(x:DGuest):List AV:=[.bool x.Live,.own 3 1 (x9 x.C.Regs) (fl (eI .i64) x.C.Regs),.int .i64 x.C.Pc,.int .i64 x.C.Root,.int .i64 x.C.Vector,.int .i64 x.C.Saved,.bool x.C.SavedUser,.int .i64 x.C.Cause,.int .i64 x.C.Bad,.int .i64 x.C.Timer,.bool x.C.Waits,.bool x.C.User,.bool x.C.On,.bool x.C.Stopped,.own 211 3 (x9 x.Pages) (fl aBi x.Pages),.own 3 1 (x9 x.In) (fl (eI .i64) x.In),.own 3 1 (x9 x.Out) (fl (eI .i64) x.Out)]
theorem yE:∀x,aG (yI x)=true:=λx=>by simp only[yI,aG,AV.noRef,d8,aC bO,aC xU]
theorem bFc:∀x,aN (yI x)=true:=λx=>by simp only[yI,aN,AV.noBor,d8,bL aJd,bL aQc]
theorem bUh:oD yI wH:=λx H r π j h=>(aJ (aE rfl) (aJ (eT (e:=3) rfl cH dN dC (h 1 _ rfl)) (aJ (aE rfl) (aJ (aE rfl) (aJ (aE rfl) (aJ (aE rfl) (aJ (aE rfl) (aJ (aE rfl) (aJ (aE rfl) (aJ (aE rfl) (aJ (aE rfl) (aJ (aE rfl) (aJ (aE rfl) (aJ (aE rfl) (aJ (eT (e:=211) rfl aYt aGt aIc (h 14 _ rfl)) (aJ (eT (e:=3) rfl cH dN dC (h 15 _ rfl)) (aJ (eT (e:=3) rfl cH dN dC (h 16 _ rfl)) zP)))))))))))))))))
def aEf(x:Dl20Rd):List AV:=[bo (eI .u8) x.b,.int .i64 x.p]
theorem bCj:∀x,noOwn (aEf x)=true:=λ_=>rfl
theorem bEn:∀x,aS (aEf x)=true:=λx=>by simp only[aEf,aS,AV.clean,d8,bK dC]
theorem aIw:∀x,aG (aEf x)=true:=λx=>by simp only[aEf,aG,AV.noRef,d8,aC bO]
def aRw(x:DHost):List AV:=[bo (eI .i64) x.Words,bo wH x.Guests]
theorem bIr:∀x,noOwn (aRw x)=true:=λ_=>rfl
theorem bHp:∀x,aS (aRw x)=true:=λx=>by simp only[aRw,aS,AV.clean,d8,bK dC,bK aHh]
theorem aMx:∀x,aG (aRw x)=true:=λx=>by simp only[aRw,aG,AV.noRef,d8,aC bO,aC xN]
def aQt(x:DMove):List AV:=[bo (eI .i64) x.From.Words,bo wH x.From.Guests,bo (eI .i64) x.To.Words,bo wH x.To.Guests,.int .i64 x.G,.int .i64 x.N,bo eB x.Left]
theorem bIw:∀x,noOwn (aQt x)=true:=λ_=>rfl
theorem bJe:∀x,aS (aQt x)=true:=λx=>by simp only[aQt,aS,AV.clean,d8,bK dC,bK aHh,bK aZn]
theorem aNo:∀x,aG (aQt x)=true:=λx=>by simp only[aQt,aG,AV.noRef,d8,aC bO,aC xN,aC aEq]
def aEb(x:DCore):List AV:=[bo (eI .i64) x.Regs,.int .i64 x.Pc,.int .i64 x.Root,.int .i64 x.Vector,.int .i64 x.Saved,.bool x.SavedUser,.int .i64 x.Cause,.int .i64 x.Bad,.int .i64 x.Timer,.bool x.Waits,.bool x.User,.bool x.On,.bool x.Stopped]
theorem bFb:∀x,noOwn (aEb x)=true:=λ_=>rfl
theorem bFk:∀x,aS (aEb x)=true:=λx=>by simp only[aEb,aS,AV.clean,d8,bK dC]
theorem aHp:∀x,aG (aEb x)=true:=λx=>by simp only[aEb,aG,AV.noRef,d8,aC bO]
def aRe(x:DCore):List AV:=[.own 3 1 (x9 x.Regs) (fl (eI .i64) x.Regs),.int .i64 x.Pc,.int .i64 x.Root,.int .i64 x.Vector,.int .i64 x.Saved,.bool x.SavedUser,.int .i64 x.Cause,.int .i64 x.Bad,.int .i64 x.Timer,.bool x.Waits,.bool x.User,.bool x.On,.bool x.Stopped]
theorem aMu:∀x,aG (aRe x)=true:=λx=>by simp only[aRe,aG,AV.noRef,d8,aC bO]
theorem bIj:∀x,aN (aRe x)=true:=λx=>by simp only[aRe,aN,AV.noBor,d8,bL aJd]
theorem bYc:oD aRe aLj:=λx H r π j h=>(aJ (eT (e:=3) rfl cH dN dC (h 0 _ rfl)) (aJ (aE rfl) (aJ (aE rfl) (aJ (aE rfl) (aJ (aE rfl) (aJ (aE rfl) (aJ (aE rfl) (aJ (aE rfl) (aJ (aE rfl) (aJ (aE rfl) (aJ (aE rfl) (aJ (aE rfl) (aJ (aE rfl) zP)))))))))))))
def aQi(x:DBare):List AV:=[.own 3 1 (x9 x.C.Regs) (fl (eI .i64) x.C.Regs),.int .i64 x.C.Pc,.int .i64 x.C.Root,.int .i64 x.C.Vector,.int .i64 x.C.Saved,.bool x.C.SavedUser,.int .i64 x.C.Cause,.int .i64 x.C.Bad,.int .i64 x.C.Timer,.bool x.C.Waits,.bool x.C.User,.bool x.C.On,.bool x.C.Stopped,.own 3 1 (x9 x.Mem) (fl (eI .i64) x.Mem),.own 3 1 (x9 x.In) (fl (eI .i64) x.In),.own 3 1 (x9 x.Out) (fl (eI .i64) x.Out)]
theorem aMs:∀x,aG (aQi x)=true:=λx=>by simp only[aQi,aG,AV.noRef,d8,aC bO]
theorem bIg:∀x,aN (aQi x)=true:=λx=>by simp only[aQi,aN,AV.noBor,d8,bL aJd]
theorem bYg:oD aQi tU:=λx H r π j h=>(aJ (eT (e:=3) rfl cH dN dC (h 0 _ rfl)) (aJ (aE rfl) (aJ (aE rfl) (aJ (aE rfl) (aJ (aE rfl) (aJ (aE rfl) (aJ (aE rfl) (aJ (aE rfl) (aJ (aE rfl) (aJ (aE rfl) (aJ (aE rfl) (aJ (aE rfl) (aJ (aE rfl) (aJ (eT (e:=3) rfl cH dN dC (h 13 _ rfl)) (aJ (eT (e:=3) rfl cH dN dC (h 14 _ rfl)) (aJ (eT (e:=3) rfl cH dN dC (h 15 _ rfl)) zP))))))))))))))))
def aIq(x:Dl20Rd):List AV:=[.own 5 1 (x9 x.b) (fl (eI .u8) x.b),.int .i64 x.p]
theorem aGv:∀x,aG (aIq x)=true:=λx=>by simp only[aIq,aG,AV.noRef,d8,aC bO]
theorem bCz:∀x,aN (aIq x)=true:=λx=>by simp only[aIq,aN,AV.noBor,d8,bL aJd]
theorem bUm:oD aIq aEf:=λx H r π j h=>(aJ (eT (e:=5) rfl cH dN dC (h 0 _ rfl)) (aJ (aE rfl) zP))
def aIu(x:DCore):List AV:=[.own 3 1 (x9 x.Regs) (fl (eI .i64) x.Regs),.int .i64 x.Pc,.int .i64 x.Root,.int .i64 x.Vector,.int .i64 x.Saved,.bool x.SavedUser,.int .i64 x.Cause,.int .i64 x.Bad,.int .i64 x.Timer,.bool x.Waits,.bool x.User,.bool x.On,.bool x.Stopped]
theorem aHe:∀x,aG (aIu x)=true:=λx=>by simp only[aIu,aG,AV.noRef,d8,aC bO]
theorem bFj:∀x,aN (aIu x)=true:=λx=>by simp only[aIu,aN,AV.noBor,d8,bL aJd]
theorem bSz:oD aIu aEb:=λx H r π j h=>(aJ (eT (e:=3) rfl cH dN dC (h 0 _ rfl)) (aJ (aE rfl) (aJ (aE rfl) (aJ (aE rfl) (aJ (aE rfl) (aJ (aE rfl) (aJ (aE rfl) (aJ (aE rfl) (aJ (aE rfl) (aJ (aE rfl) (aJ (aE rfl) (aJ (aE rfl) (aJ (aE rfl) zP)))))))))))))
def cHq(x:DCore)(us:List AV):List AV:= .int .i64 x.Pc:: .int .i64 x.Root:: .int .i64 x.Vector:: .int .i64 x.Saved:: .bool x.SavedUser:: .int .i64 x.Cause:: .int .i64 x.Bad:: .int .i64 x.Timer:: .bool x.Waits:: .bool x.User:: .bool x.On:: .bool x.Stopped::us
def jY(us:List AV):List AV:= .int .i64 (0:Int):: .int .i64 (0:Int):: .int .i64 (0:Int):: .int .i64 (0:Int):: .bool false:: .int .i64 (0:Int):: .int .i64 (0:Int):: .int .i64 (0:Int):: .bool false:: .bool false:: .bool false:: .bool false::us
def cEz(x:DShade)(us:List AV):List AV:= .bool x.There:: .bool x.Write:: .bool x.User:: .int .i64 x.Page:: .int .i64 x.Frame:: .bool x.Ready::us
def cDd(us:List AV):List AV:= .bool false:: .bool false:: .bool false:: .int .i64 (0:Int):: .int .i64 (0:Int):: .bool false::us
def cFi(x:DEntry)(us:List AV):List AV:= .bool x.There:: .bool x.Write:: .bool x.User:: .int .i64 x.Page::us
def cDl(us:List AV):List AV:= .bool false:: .bool false:: .bool false:: .int .i64 (0:Int)::us
def cFh(x:DCore)(us:List AV):List AV:= .int .i64 x.Pc:: .int .i64 x.Root:: .int .i64 x.Vector:: .int .i64 x.Saved:: .bool x.SavedUser:: .int .i64 x.Cause:: .int .i64 x.Bad:: .int .i64 x.Timer:: .bool x.Waits:: .bool x.User:: .bool x.On:: .bool x.Stopped::us
def cAw(us:List AV):List AV:= .int .i64 (0:Int):: .int .i64 (0:Int):: .int .i64 (0:Int):: .int .i64 (0:Int):: .bool false:: .int .i64 (0:Int):: .int .i64 (0:Int):: .int .i64 (0:Int):: .bool false:: .bool false:: .bool false:: .bool false::us
theorem rz{ρ:Nat->Option Nat}{n:Nat}{vs us:List AV}(h:Rens ρ n vs us:=by repeat first|exact hT|refine cAl ?_|refine bZw ?_|refine aW bYv ?_|refine aW (oQ ?_) ?_|refine aW (aMz dd rfl) ?_|refine aW wZ ?_|refine aW (bAe dd rfl rfl) ?_|refine aW (bS (aL (aC aIw))) ?_|refine aW (bS (aL (aC aHp))) ?_|refine aW (bS (aL (aC xN))) ?_|refine aW (bS (aL (aC aNn))) ?_|refine aW (bS (aL (aC aNj))) ?_|refine aW (bS (aL (aC aMl))) ?_|refine aW (bS (aL (aC aNc))) ?_|refine aW (bS (aL (aC aMx))) ?_|refine aW (bS (aL (aC aNo))) ?_|refine aW (bS (aL (aC aBx))) ?_|refine aW (bS (aL (aC aHj))) ?_|refine aW (bS (aL (aC aHo))) ?_|refine aW (bS (aL (aC aIy))) ?_|refine aW (bS (aL (aC aHn))) ?_|refine aW (bS (aL (aC xU))) ?_|refine aW (bS (aL (aC aMo))) ?_|refine aW (bS (aL (aC aNg))) ?_|refine aW (bS (aL (aC oO))) ?_|refine aW (bS (aL (aC aGv))) ?_|refine aW (bS (aL (aC aHe))) ?_|refine aW (bS (aL (aC yE))) ?_|refine aW (bS (aL (aC aMu))) ?_|refine aW (bS (aL (aC aMs))) ?_|refine aW (bS (aL (aC gZ))) ?_|refine aW (bS (aL (aC bO))) ?_|refine aW (bS (aL (aC aEq))) ?_):Rens ρ n vs us:=h
theorem nrr{p:Prop}(h:p:=by simp only[cEz,cFh,cFi,cHq,cDd,cAw,cDl,jY,AV.noRef,aG,AV.noBor,aN,d8,aC aIw,aC aHp,aC xN,aC aNn,aC aNj,aC aMl,aC aNc,aC aMx,aC aNo,aC aBx,aC aHj,aC aHo,aC aIy,aC aHn,aC xU,aC aMo,aC aNg,aC oO,aC aGv,aC aHe,aC yE,aC aMu,aC aMs,aC gZ,aC bO,aC aEq,aIw,aHp,xN,aNn,aNj,aMl,aNc,aMx,aNo,aBx,aHj,aHo,aIy,aHn,xU,aMo,aNg,oO,aGv,aHe,yE,aMu,aMs,gZ,bL bEg,bL bDc,bL bDj,bL bEc,bL aQc,bL bHq,bL bIt,bL aXl,bL bCz,bL bFj,bL bFc,bL bIj,bL bIg,bL bIe,bL aJd,bL cFm,bEg,bDc,bDj,bEc,aQc,bHq,bIt,aXl,bCz,bFj,bFc,bIj,bIg,bIe]):p:=h
abbrev zc0:List AV:=[bb false,.nil,ii 0,ii 0,ii 0,ii 0,bb false,ii 0,ii 0,ii 0,bb false,bb false,bb false,bb false,.nil,.nil,.nil]
abbrev rI_3(x:List Int):Root:=⟨3,fl (eI .i64) x⟩
abbrev rC91(x:List DSlot):Root:=⟨91,fl dP x⟩
abbrev rO94(x:List DGuest):Root:=⟨94,fl dO x⟩
abbrev rB26(x:DHost):Root:=⟨26,dE x⟩
abbrev rT_4(x:List Bool):Root:=⟨4,fl eB x⟩
end Go.Proofs.YtcgggihjcelmhaaGreat
