/- The types of the plain functions. Made by program. -/
import Derived.Test.YtcgggihjcelmhaaGreatZY
import Derived.Test.YtcgggihjcelmhaaGreatProg
namespace Go.Proofs.YtcgggihjcelmhaaGreat
open Go.RowKit
set_option maxRecDepth 100000
set_option linter.all false
set_option maxHeartbeats 0
noncomputable def rg:=cCz Tryz.prog
abbrev LW(k:Nat)(L:LFun):Prop:=jS Tryz.prog k=some L
structure DCore where
 Regs:List Int
 Pc:Int
 Root:Int
 Vector:Int
 Saved:Int
 SavedUser:Bool
 Cause:Int
 Bad:Int
 Timer:Int
 Waits:Bool
 User:Bool
 On:Bool
 Stopped:Bool
deriving Inhabited
structure DSlot where
 Frame:Int
 Write:Bool
 Dirty:Bool
deriving Inhabited
structure DGuest where
 Live:Bool
 C:DCore
 Pages:List DSlot
 In:List Int
 Out:List Int
deriving Inhabited
structure DHost where
 Words:List Int
 Guests:List DGuest
deriving Inhabited
structure DMove where
 From:DHost
 To:DHost
 G:Int
 N:Int
 Left:List Bool
deriving Inhabited
structure DAct where
 Kind:Int
 Page:Int
deriving Inhabited
structure DBare where
 C:DCore
 Mem:List Int
 In:List Int
 Out:List Int
deriving Inhabited
structure Dl20Rd where
 b:List Int
 p:Int
deriving Inhabited
structure DIns where
 Op:Int
 A:Int
 N:Int
deriving Inhabited
structure DShade where
 There:Bool
 Write:Bool
 User:Bool
 Page:Int
 Frame:Int
 Ready:Bool
deriving Inhabited
structure DExit where
 Why:Int
 Page:Int
 What:DIns
deriving Inhabited
structure DEntry where
 There:Bool
 Write:Bool
 User:Bool
 Page:Int
deriving Inhabited
def aJt(x:DBare):List AV:=[bo (eI .i64) x.C.Regs,.int .i64 x.C.Pc,.int .i64 x.C.Root,.int .i64 x.C.Vector,.int .i64 x.C.Saved,.bool x.C.SavedUser,.int .i64 x.C.Cause,.int .i64 x.C.Bad,.int .i64 x.C.Timer,.bool x.C.Waits,.bool x.C.User,.bool x.C.On,.bool x.C.Stopped,bo (eI .i64) x.Mem,bo (eI .i64) x.In,bo (eI .i64) x.Out]
theorem bFk:∀x,noOwn (aJt x)=true:=λ_=>rfl
theorem bGq:∀x,aR (aJt x)=true:=λx=>by simp only[aJt,aR,AV.clean,Bool.and_self,bN cX]
theorem aLc:∀x,aG (aJt x)=true:=λx=>by simp only[aJt,aG,AV.noRef,Bool.and_self,aC bK]
def aIy(x:DCore):List AV:=[bo (eI .i64) x.Regs,.int .i64 x.Pc,.int .i64 x.Root,.int .i64 x.Vector,.int .i64 x.Saved,.bool x.SavedUser,.int .i64 x.Cause,.int .i64 x.Bad,.int .i64 x.Timer,.bool x.Waits,.bool x.User,.bool x.On,.bool x.Stopped]
theorem bFi:∀x,noOwn (aIy x)=true:=λ_=>rfl
theorem bGr:∀x,aR (aIy x)=true:=λx=>by simp only[aIy,aR,AV.clean,Bool.and_self,bN cX]
theorem aKn:∀x,aG (aIy x)=true:=λx=>by simp only[aIy,aG,AV.noRef,Bool.and_self,aC bK]
def gL(x:DSlot):List AV:=[.int .i64 x.Frame,.bool x.Write,.bool x.Dirty]
theorem qH:∀x,(gL x).length=3:=λ_=>rfl
theorem aKy:∀x,noOwn (gL x)=true:=λ_=>rfl
theorem aLh:∀x,aR (gL x)=true:=λ_=>rfl
theorem oY:∀x,aG (gL x)=true:=λ_=>rfl
theorem aUg:∀x,aN (gL x)=true:=λ_=>rfl
def iJ(x:DGuest):List AV:=[.bool x.Live,bo (eI .i64) x.C.Regs,.int .i64 x.C.Pc,.int .i64 x.C.Root,.int .i64 x.C.Vector,.int .i64 x.C.Saved,.bool x.C.SavedUser,.int .i64 x.C.Cause,.int .i64 x.C.Bad,.int .i64 x.C.Timer,.bool x.C.Waits,.bool x.C.User,.bool x.C.On,.bool x.C.Stopped,bo gL x.Pages,bo (eI .i64) x.In,bo (eI .i64) x.Out]
theorem bAx:∀x,(iJ x).length=17:=λ_=>rfl
theorem bFe:∀x,noOwn (iJ x)=true:=λ_=>rfl
theorem aKq:∀x,aR (iJ x)=true:=λx=>by simp only[iJ,aR,AV.clean,Bool.and_self,bN cX,bN aLh]
theorem aAj:∀x,aG (iJ x)=true:=λx=>by simp only[iJ,aG,AV.noRef,Bool.and_self,aC bK,aC oY]
def hG(x:DHost):List AV:=[bo (eI .i64) x.Words,bo iJ x.Guests]
theorem bGn:∀x,noOwn (hG x)=true:=λ_=>rfl
theorem aAi:∀x,aR (hG x)=true:=λx=>by simp only[hG,aR,AV.clean,Bool.and_self,bN cX,bN aKq]
theorem aKx:∀x,aG (hG x)=true:=λx=>by simp only[hG,aG,AV.noRef,Bool.and_self,aC bK,aC aAj]
def zY(x:DSlot):List AV:=[.int .i64 x.Frame,.bool x.Write,.bool x.Dirty]
theorem aVt:∀x,(zY x).length=3:=λ_=>rfl
theorem aGq:∀x,noOwn (zY x)=true:=λ_=>rfl
theorem aGu:∀x,aR (zY x)=true:=λ_=>rfl
theorem wR:∀x,aG (zY x)=true:=λ_=>rfl
theorem aPr:∀x,aN (zY x)=true:=λ_=>rfl
def uW(x:DGuest):List AV:=[.bool x.Live,bo (eI .i64) x.C.Regs,.int .i64 x.C.Pc,.int .i64 x.C.Root,.int .i64 x.C.Vector,.int .i64 x.C.Saved,.bool x.C.SavedUser,.int .i64 x.C.Cause,.int .i64 x.C.Bad,.int .i64 x.C.Timer,.bool x.C.Waits,.bool x.C.User,.bool x.C.On,.bool x.C.Stopped,bo zY x.Pages,bo (eI .i64) x.In,bo (eI .i64) x.Out]
theorem aYt:∀x,noOwn (uW x)=true:=λ_=>rfl
theorem aFu:∀x,aR (uW x)=true:=λx=>by simp only[uW,aR,AV.clean,Bool.and_self,bN cX,bN aGu]
theorem wE:∀x,aG (uW x)=true:=λx=>by simp only[uW,aG,AV.noRef,Bool.and_self,aC bK,aC wR]
def fG(x:DGuest):List AV:=[.bool x.Live,.own 3 1 (List.length x.C.Regs) (fl (eI .i64) x.C.Regs),.int .i64 x.C.Pc,.int .i64 x.C.Root,.int .i64 x.C.Vector,.int .i64 x.C.Saved,.bool x.C.SavedUser,.int .i64 x.C.Cause,.int .i64 x.C.Bad,.int .i64 x.C.Timer,.bool x.C.Waits,.bool x.C.User,.bool x.C.On,.bool x.C.Stopped,.own 91 3 (List.length x.Pages) (fl gL x.Pages),.own 3 1 (List.length x.In) (fl (eI .i64) x.In),.own 3 1 (List.length x.Out) (fl (eI .i64) x.Out)]
theorem wQ:∀x,(fG x).length=17:=λ_=>rfl
theorem kL:∀x,aG (fG x)=true:=λx=>by simp only[fG,aG,AV.noRef,Bool.and_self,aC bK,aC oY]
theorem bEy:∀x,aN (fG x)=true:=λx=>by simp only[fG,aN,AV.noBor,Bool.and_self,bH aHe,bH aUg]
theorem bFy:nA fG iJ:=λx H r π j h=>(aI (aF rfl) (aI (eJ (e:=3) rfl cD dG cX (h 1 _ rfl)) (aI (aF rfl) (aI (aF rfl) (aI (aF rfl) (aI (aF rfl) (aI (aF rfl) (aI (aF rfl) (aI (aF rfl) (aI (aF rfl) (aI (aF rfl) (aI (aF rfl) (aI (aF rfl) (aI (aF rfl) (aI (eJ (e:=91) rfl qH aKy aLh (h 14 _ rfl)) (aI (eJ (e:=3) rfl cD dG cX (h 15 _ rfl)) (aI (eJ (e:=3) rfl cD dG cX (h 16 _ rfl)) aAw)))))))))))))))))
def aKv(x:DShade):List AV:=[.bool x.There,.bool x.Write,.bool x.User,.int .i64 x.Page,.int .i64 x.Frame,.bool x.Ready]
theorem bBq:∀x,noOwn (aKv x)=true:=λ_=>rfl
theorem aZe:∀x,aR (aKv x)=true:=λ_=>rfl
theorem aFn:∀x,aG (aKv x)=true:=λ_=>rfl
theorem bBg:∀x,aN (aKv x)=true:=λ_=>rfl
def aLu(x:DEntry):List AV:=[.bool x.There,.bool x.Write,.bool x.User,.int .i64 x.Page]
theorem aXn:∀x,noOwn (aLu x)=true:=λ_=>rfl
theorem aYg:∀x,aR (aLu x)=true:=λ_=>rfl
theorem aFs:∀x,aG (aLu x)=true:=λ_=>rfl
theorem bCa:∀x,aN (aLu x)=true:=λ_=>rfl
def aLp(x:DIns):List AV:=[.int .i64 x.Op,.int .i64 x.A,.int .i64 x.N]
theorem aZn:∀x,noOwn (aLp x)=true:=λ_=>rfl
theorem bCx:∀x,aR (aLp x)=true:=λ_=>rfl
theorem aGv:∀x,aG (aLp x)=true:=λ_=>rfl
theorem bAs:∀x,aN (aLp x)=true:=λ_=>rfl
def aLj(x:DExit):List AV:=[.int .i64 x.Why,.int .i64 x.Page,.int .i64 x.What.Op,.int .i64 x.What.A,.int .i64 x.What.N]
theorem bCm:∀x,noOwn (aLj x)=true:=λ_=>rfl
theorem bCy:∀x,aR (aLj x)=true:=λ_=>rfl
theorem aFi:∀x,aG (aLj x)=true:=λ_=>rfl
theorem bBd:∀x,aN (aLj x)=true:=λ_=>rfl
def aOd(x:DMove):List AV:=[bo (eI .i64) x.From.Words,bo iJ x.From.Guests,bo (eI .i64) x.To.Words,bo iJ x.To.Guests,.int .i64 x.G,.int .i64 x.N,bo eB x.Left]
theorem bEd:∀x,noOwn (aOd x)=true:=λ_=>rfl
theorem bEb:∀x,aR (aOd x)=true:=λx=>by simp only[aOd,aR,AV.clean,Bool.and_self,bN cX,bN aKq,bN aWu]
theorem aKu:∀x,aG (aOd x)=true:=λx=>by simp only[aOd,aG,AV.noRef,Bool.and_self,aC bK,aC aAj,aC aFc]
def aTw(x:DAct):List AV:=[.int .i64 x.Kind,.int .i64 x.Page]
theorem bFv:∀x,noOwn (aTw x)=true:=λ_=>rfl
theorem bGs:∀x,aR (aTw x)=true:=λ_=>rfl
theorem aLt:∀x,aG (aTw x)=true:=λ_=>rfl
theorem bFr:∀x,aN (aTw x)=true:=λ_=>rfl
def aTo(x:DAct):List AV:=[.int .i64 x.Kind,.int .i64 x.Page]
theorem bEv:∀x,noOwn (aTo x)=true:=λ_=>rfl
theorem bEi:∀x,aR (aTo x)=true:=λ_=>rfl
theorem aLs:∀x,aG (aTo x)=true:=λ_=>rfl
theorem bFa:∀x,aN (aTo x)=true:=λ_=>rfl
def xA(x:DGuest):List AV:=[.bool x.Live,.own 3 1 (List.length x.C.Regs) (fl (eI .i64) x.C.Regs),.int .i64 x.C.Pc,.int .i64 x.C.Root,.int .i64 x.C.Vector,.int .i64 x.C.Saved,.bool x.C.SavedUser,.int .i64 x.C.Cause,.int .i64 x.C.Bad,.int .i64 x.C.Timer,.bool x.C.Waits,.bool x.C.User,.bool x.C.On,.bool x.C.Stopped,.own 211 3 (List.length x.Pages) (fl zY x.Pages),.own 3 1 (List.length x.In) (fl (eI .i64) x.In),.own 3 1 (List.length x.Out) (fl (eI .i64) x.Out)]
theorem wN:∀x,aG (xA x)=true:=λx=>by simp only[xA,aG,AV.noRef,Bool.and_self,aC bK,aC wR]
theorem aZq:∀x,aN (xA x)=true:=λx=>by simp only[xA,aN,AV.noBor,Bool.and_self,bH aHe,bH aPr]
theorem bRm:nA xA uW:=λx H r π j h=>(aI (aF rfl) (aI (eJ (e:=3) rfl cD dG cX (h 1 _ rfl)) (aI (aF rfl) (aI (aF rfl) (aI (aF rfl) (aI (aF rfl) (aI (aF rfl) (aI (aF rfl) (aI (aF rfl) (aI (aF rfl) (aI (aF rfl) (aI (aF rfl) (aI (aF rfl) (aI (aF rfl) (aI (eJ (e:=211) rfl aVt aGq aGu (h 14 _ rfl)) (aI (eJ (e:=3) rfl cD dG cX (h 15 _ rfl)) (aI (eJ (e:=3) rfl cD dG cX (h 16 _ rfl)) aAw)))))))))))))))))
def aCk(x:Dl20Rd):List AV:=[bo (eI .u8) x.b,.int .i64 x.p]
theorem aZh:∀x,noOwn (aCk x)=true:=λ_=>rfl
theorem bAz:∀x,aR (aCk x)=true:=λx=>by simp only[aCk,aR,AV.clean,Bool.and_self,bN cX]
theorem aFg:∀x,aG (aCk x)=true:=λx=>by simp only[aCk,aG,AV.noRef,Bool.and_self,aC bK]
def aPd(x:DHost):List AV:=[bo (eI .i64) x.Words,bo uW x.Guests]
theorem bGy:∀x,noOwn (aPd x)=true:=λ_=>rfl
theorem bGf:∀x,aR (aPd x)=true:=λx=>by simp only[aPd,aR,AV.clean,Bool.and_self,bN cX,bN aFu]
theorem aKt:∀x,aG (aPd x)=true:=λx=>by simp only[aPd,aG,AV.noRef,Bool.and_self,aC bK,aC wE]
def aOq(x:DMove):List AV:=[bo (eI .i64) x.From.Words,bo uW x.From.Guests,bo (eI .i64) x.To.Words,bo uW x.To.Guests,.int .i64 x.G,.int .i64 x.N,bo eB x.Left]
theorem bGd:∀x,noOwn (aOq x)=true:=λ_=>rfl
theorem bDx:∀x,aR (aOq x)=true:=λx=>by simp only[aOq,aR,AV.clean,Bool.and_self,bN cX,bN aFu,bN aWu]
theorem aLi:∀x,aG (aOq x)=true:=λx=>by simp only[aOq,aG,AV.noRef,Bool.and_self,aC bK,aC wE,aC aFc]
def aCl(x:DCore):List AV:=[bo (eI .i64) x.Regs,.int .i64 x.Pc,.int .i64 x.Root,.int .i64 x.Vector,.int .i64 x.Saved,.bool x.SavedUser,.int .i64 x.Cause,.int .i64 x.Bad,.int .i64 x.Timer,.bool x.Waits,.bool x.User,.bool x.On,.bool x.Stopped]
theorem aZy:∀x,noOwn (aCl x)=true:=λ_=>rfl
theorem bCu:∀x,aR (aCl x)=true:=λx=>by simp only[aCl,aR,AV.clean,Bool.and_self,bN cX]
theorem aFv:∀x,aG (aCl x)=true:=λx=>by simp only[aCl,aG,AV.noRef,Bool.and_self,aC bK]
def aOt(x:DCore):List AV:=[.own 3 1 (List.length x.Regs) (fl (eI .i64) x.Regs),.int .i64 x.Pc,.int .i64 x.Root,.int .i64 x.Vector,.int .i64 x.Saved,.bool x.SavedUser,.int .i64 x.Cause,.int .i64 x.Bad,.int .i64 x.Timer,.bool x.Waits,.bool x.User,.bool x.On,.bool x.Stopped]
theorem aLw:∀x,aG (aOt x)=true:=λx=>by simp only[aOt,aG,AV.noRef,Bool.and_self,aC bK]
theorem bEg:∀x,aN (aOt x)=true:=λx=>by simp only[aOt,aN,AV.noBor,Bool.and_self,bH aHe]
theorem bUh:nA aOt aIy:=λx H r π j h=>(aI (eJ (e:=3) rfl cD dG cX (h 0 _ rfl)) (aI (aF rfl) (aI (aF rfl) (aI (aF rfl) (aI (aF rfl) (aI (aF rfl) (aI (aF rfl) (aI (aF rfl) (aI (aF rfl) (aI (aF rfl) (aI (aF rfl) (aI (aF rfl) (aI (aF rfl) aAw)))))))))))))
def aPu(x:DBare):List AV:=[.own 3 1 (List.length x.C.Regs) (fl (eI .i64) x.C.Regs),.int .i64 x.C.Pc,.int .i64 x.C.Root,.int .i64 x.C.Vector,.int .i64 x.C.Saved,.bool x.C.SavedUser,.int .i64 x.C.Cause,.int .i64 x.C.Bad,.int .i64 x.C.Timer,.bool x.C.Waits,.bool x.C.User,.bool x.C.On,.bool x.C.Stopped,.own 3 1 (List.length x.Mem) (fl (eI .i64) x.Mem),.own 3 1 (List.length x.In) (fl (eI .i64) x.In),.own 3 1 (List.length x.Out) (fl (eI .i64) x.Out)]
theorem aLf:∀x,aG (aPu x)=true:=λx=>by simp only[aPu,aG,AV.noRef,Bool.and_self,aC bK]
theorem bEl:∀x,aN (aPu x)=true:=λx=>by simp only[aPu,aN,AV.noBor,Bool.and_self,bH aHe]
theorem bUp:nA aPu aJt:=λx H r π j h=>(aI (eJ (e:=3) rfl cD dG cX (h 0 _ rfl)) (aI (aF rfl) (aI (aF rfl) (aI (aF rfl) (aI (aF rfl) (aI (aF rfl) (aI (aF rfl) (aI (aF rfl) (aI (aF rfl) (aI (aF rfl) (aI (aF rfl) (aI (aF rfl) (aI (aF rfl) (aI (eJ (e:=3) rfl cD dG cX (h 13 _ rfl)) (aI (eJ (e:=3) rfl cD dG cX (h 14 _ rfl)) (aI (eJ (e:=3) rfl cD dG cX (h 15 _ rfl)) aAw))))))))))))))))
def aHc(x:Dl20Rd):List AV:=[.own 5 1 (List.length x.b) (fl (eI .u8) x.b),.int .i64 x.p]
theorem aFo:∀x,aG (aHc x)=true:=λx=>by simp only[aHc,aG,AV.noRef,Bool.and_self,aC bK]
theorem aZf:∀x,aN (aHc x)=true:=λx=>by simp only[aHc,aN,AV.noBor,Bool.and_self,bH aHe]
theorem bRo:nA aHc aCk:=λx H r π j h=>(aI (eJ (e:=5) rfl cD dG cX (h 0 _ rfl)) (aI (aF rfl) aAw))
def aGy(x:DCore):List AV:=[.own 3 1 (List.length x.Regs) (fl (eI .i64) x.Regs),.int .i64 x.Pc,.int .i64 x.Root,.int .i64 x.Vector,.int .i64 x.Saved,.bool x.SavedUser,.int .i64 x.Cause,.int .i64 x.Bad,.int .i64 x.Timer,.bool x.Waits,.bool x.User,.bool x.On,.bool x.Stopped]
theorem aGb:∀x,aG (aGy x)=true:=λx=>by simp only[aGy,aG,AV.noRef,Bool.and_self,aC bK]
theorem bCg:∀x,aN (aGy x)=true:=λx=>by simp only[aGy,aN,AV.noBor,Bool.and_self,bH aHe]
theorem bPl:nA aGy aCl:=λx H r π j h=>(aI (eJ (e:=3) rfl cD dG cX (h 0 _ rfl)) (aI (aF rfl) (aI (aF rfl) (aI (aF rfl) (aI (aF rfl) (aI (aF rfl) (aI (aF rfl) (aI (aF rfl) (aI (aF rfl) (aI (aF rfl) (aI (aF rfl) (aI (aF rfl) (aI (aF rfl) aAw)))))))))))))
def cDw(x:DCore)(us:List AV):List AV:= .int .i64 x.Pc:: .int .i64 x.Root:: .int .i64 x.Vector:: .int .i64 x.Saved:: .bool x.SavedUser:: .int .i64 x.Cause:: .int .i64 x.Bad:: .int .i64 x.Timer:: .bool x.Waits:: .bool x.User:: .bool x.On:: .bool x.Stopped::us
def pP(us:List AV):List AV:= .int .i64 (0:Int):: .int .i64 (0:Int):: .int .i64 (0:Int):: .int .i64 (0:Int):: .bool false:: .int .i64 (0:Int):: .int .i64 (0:Int):: .int .i64 (0:Int):: .bool false:: .bool false:: .bool false:: .bool false::us
def cCb(x:DShade)(us:List AV):List AV:= .bool x.There:: .bool x.Write:: .bool x.User:: .int .i64 x.Page:: .int .i64 x.Frame:: .bool x.Ready::us
def bZv(us:List AV):List AV:= .bool false:: .bool false:: .bool false:: .int .i64 (0:Int):: .int .i64 (0:Int):: .bool false::us
def cBx(x:DEntry)(us:List AV):List AV:= .bool x.There:: .bool x.Write:: .bool x.User:: .int .i64 x.Page::us
def bYa(us:List AV):List AV:= .bool false:: .bool false:: .bool false:: .int .i64 (0:Int)::us
def cCn(x:DCore)(us:List AV):List AV:= .int .i64 x.Pc:: .int .i64 x.Root:: .int .i64 x.Vector:: .int .i64 x.Saved:: .bool x.SavedUser:: .int .i64 x.Cause:: .int .i64 x.Bad:: .int .i64 x.Timer:: .bool x.Waits:: .bool x.User:: .bool x.On:: .bool x.Stopped::us
def bXg(us:List AV):List AV:= .int .i64 (0:Int):: .int .i64 (0:Int):: .int .i64 (0:Int):: .int .i64 (0:Int):: .bool false:: .int .i64 (0:Int):: .int .i64 (0:Int):: .int .i64 (0:Int):: .bool false:: .bool false:: .bool false:: .bool false::us
theorem rz{ρ:Nat->Option Nat}{n:Nat}{vs us:List AV}(h:Rens ρ n vs us:=by repeat first|exact gX|refine bWl ?_|refine cAr ?_|refine aT bUf ?_|refine aT (nL ?_) ?_|refine aT (aKo dd rfl) ?_|refine aT yN ?_|refine aT (bAt dd rfl rfl) ?_|refine aT (bM (aK (aC aFg))) ?_|refine aT (bM (aK (aC aFv))) ?_|refine aT (bM (aK (aC wE))) ?_|refine aT (bM (aK (aC aKx))) ?_|refine aT (bM (aK (aC aKu))) ?_|refine aT (bM (aK (aC aKn))) ?_|refine aT (bM (aK (aC aLc))) ?_|refine aT (bM (aK (aC aKt))) ?_|refine aT (bM (aK (aC aLi))) ?_|refine aT (bM (aK (aC aAj))) ?_|refine aT (bM (aK (aC aGv))) ?_|refine aT (bM (aK (aC aFn))) ?_|refine aT (bM (aK (aC aFi))) ?_|refine aT (bM (aK (aC aFs))) ?_|refine aT (bM (aK (aC wR))) ?_|refine aT (bM (aK (aC aLt))) ?_|refine aT (bM (aK (aC aLs))) ?_|refine aT (bM (aK (aC oY))) ?_|refine aT (bM (aK (aC aFo))) ?_|refine aT (bM (aK (aC aGb))) ?_|refine aT (bM (aK (aC wN))) ?_|refine aT (bM (aK (aC aLw))) ?_|refine aT (bM (aK (aC aLf))) ?_|refine aT (bM (aK (aC kL))) ?_|refine aT (bM (aK (aC bK))) ?_|refine aT (bM (aK (aC aFc))) ?_):Rens ρ n vs us:=h
theorem nrr{p:Prop}(h:p:=by simp only[cCb,cCn,cBx,cDw,bZv,bXg,bYa,pP,AV.noRef,aG,AV.noBor,aN,Bool.and_self,aC aFg,aC aFv,aC wE,aC aKx,aC aKu,aC aKn,aC aLc,aC aKt,aC aLi,aC aAj,aC aGv,aC aFn,aC aFi,aC aFs,aC wR,aC aLt,aC aLs,aC oY,aC aFo,aC aGb,aC wN,aC aLw,aC aLf,aC kL,aC bK,aC aFc,aFg,aFv,wE,aKx,aKu,aKn,aLc,aKt,aLi,aAj,aGv,aFn,aFi,aFs,wR,aLt,aLs,oY,aFo,aGb,wN,aLw,aLf,kL,bH bAs,bH bBg,bH bBd,bH bCa,bH aPr,bH bFr,bH bFa,bH aUg,bH aZf,bH bCg,bH aZq,bH bEg,bH bEl,bH bEy,bH aHe,bH cCj,bAs,bBg,bBd,bCa,aPr,bFr,bFa,aUg,aZf,bCg,aZq,bEg,bEl,bEy]):p:=h
abbrev zc0:List AV:=[bb false,.nil,ii 0,ii 0,ii 0,ii 0,bb false,ii 0,ii 0,ii 0,bb false,bb false,bb false,bb false,.nil,.nil,.nil]
abbrev rI_3(x:List Int):Root:=⟨3,fl (eI .i64) x⟩
abbrev rC91(x:List DSlot):Root:=⟨91,fl gL x⟩
abbrev rO94(x:List DGuest):Root:=⟨94,fl fG x⟩
abbrev rB26(x:DHost):Root:=⟨26,hG x⟩
end Go.Proofs.YtcgggihjcelmhaaGreat
