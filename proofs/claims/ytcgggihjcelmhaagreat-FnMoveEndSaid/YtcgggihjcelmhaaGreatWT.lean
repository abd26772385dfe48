/- The types of the plain functions. Made by program. -/
import Derived.Test.YtcgggihjcelmhaaGreatZY
import Derived.Test.YtcgggihjcelmhaaGreatProg
namespace Go.Proofs.YtcgggihjcelmhaaGreat
open Go.RowKit
set_option maxRecDepth 100000
set_option linter.all false
set_option maxHeartbeats 0
noncomputable def rg:=cCj Tryz.prog
abbrev LW(k:Nat)(L:LFun):Prop:=iY Tryz.prog k=some L
structure DCore where
 Regs:List Int
 Pc:Int
 Root:Int
 Vector:Int
 Saved:Int
 SavedUser:Bool
 Cause:Int
 Bad:Int
 Timer:Int
 Waits:Bool
 User:Bool
 On:Bool
 Stopped:Bool
deriving Inhabited
structure DSlot where
 Frame:Int
 Write:Bool
 Dirty:Bool
deriving Inhabited
structure DGuest where
 Live:Bool
 C:DCore
 Pages:List DSlot
 In:List Int
 Out:List Int
deriving Inhabited
structure DHost where
 Words:List Int
 Guests:List DGuest
deriving Inhabited
structure DMove where
 From:DHost
 To:DHost
 G:Int
 N:Int
 Left:List Bool
deriving Inhabited
structure DAct where
 Kind:Int
 Page:Int
deriving Inhabited
structure DBare where
 C:DCore
 Mem:List Int
 In:List Int
 Out:List Int
deriving Inhabited
structure Dl20Rd where
 b:List Int
 p:Int
deriving Inhabited
structure DIns where
 Op:Int
 A:Int
 N:Int
deriving Inhabited
structure DShade where
 There:Bool
 Write:Bool
 User:Bool
 Page:Int
 Frame:Int
 Ready:Bool
deriving Inhabited
structure DExit where
 Why:Int
 Page:Int
 What:DIns
deriving Inhabited
structure DEntry where
 There:Bool
 Write:Bool
 User:Bool
 Page:Int
deriving Inhabited
def aIg(x:DBare):List AV:=[bo (eI .i64) x.C.Regs,.int .i64 x.C.Pc,.int .i64 x.C.Root,.int .i64 x.C.Vector,.int .i64 x.C.Saved,.bool x.C.SavedUser,.int .i64 x.C.Cause,.int .i64 x.C.Bad,.int .i64 x.C.Timer,.bool x.C.Waits,.bool x.C.User,.bool x.C.On,.bool x.C.Stopped,bo (eI .i64) x.Mem,bo (eI .i64) x.In,bo (eI .i64) x.Out]
theorem bCw:∀x,noOwn (aIg x)=true:=λ_=>rfl
theorem bCd:∀x,aS (aIg x)=true:=λx=>by simp only[aIg,aS,AV.clean,Bool.and_self,bN cX]
theorem aJx:∀x,aG (aIg x)=true:=λx=>by simp only[aIg,aG,AV.noRef,Bool.and_self,aB bK]
def aIo(x:DCore):List AV:=[bo (eI .i64) x.Regs,.int .i64 x.Pc,.int .i64 x.Root,.int .i64 x.Vector,.int .i64 x.Saved,.bool x.SavedUser,.int .i64 x.Cause,.int .i64 x.Bad,.int .i64 x.Timer,.bool x.Waits,.bool x.User,.bool x.On,.bool x.Stopped]
theorem bEv:∀x,noOwn (aIo x)=true:=λ_=>rfl
theorem bEt:∀x,aS (aIo x)=true:=λx=>by simp only[aIo,aS,AV.clean,Bool.and_self,bN cX]
theorem aKg:∀x,aG (aIo x)=true:=λx=>by simp only[aIo,aG,AV.noRef,Bool.and_self,aB bK]
def fX(x:DSlot):List AV:=[.int .i64 x.Frame,.bool x.Write,.bool x.Dirty]
theorem oP:∀x,(fX x).length=3:=λ_=>rfl
theorem aJr:∀x,noOwn (fX x)=true:=λ_=>rfl
theorem aJi:∀x,aS (fX x)=true:=λ_=>rfl
theorem nP:∀x,aG (fX x)=true:=λ_=>rfl
theorem aSg:∀x,aO (fX x)=true:=λ_=>rfl
def hC(x:DGuest):List AV:=[.bool x.Live,bo (eI .i64) x.C.Regs,.int .i64 x.C.Pc,.int .i64 x.C.Root,.int .i64 x.C.Vector,.int .i64 x.C.Saved,.bool x.C.SavedUser,.int .i64 x.C.Cause,.int .i64 x.C.Bad,.int .i64 x.C.Timer,.bool x.C.Waits,.bool x.C.User,.bool x.C.On,.bool x.C.Stopped,bo fX x.Pages,bo (eI .i64) x.In,bo (eI .i64) x.Out]
theorem aZe:∀x,(hC x).length=17:=λ_=>rfl
theorem bCe:∀x,noOwn (hC x)=true:=λ_=>rfl
theorem aJn:∀x,aS (hC x)=true:=λx=>by simp only[hC,aS,AV.clean,Bool.and_self,bN cX,bN aJi]
theorem yW:∀x,aG (hC x)=true:=λx=>by simp only[hC,aG,AV.noRef,Bool.and_self,aB bK,aB nP]
def gW(x:DHost):List AV:=[bo (eI .i64) x.Words,bo hC x.Guests]
theorem bDh:∀x,noOwn (gW x)=true:=λ_=>rfl
theorem yR:∀x,aS (gW x)=true:=λx=>by simp only[gW,aS,AV.clean,Bool.and_self,bN cX,bN aJn]
theorem aJf:∀x,aG (gW x)=true:=λx=>by simp only[gW,aG,AV.noRef,Bool.and_self,aB bK,aB yW]
def yI(x:DSlot):List AV:=[.int .i64 x.Frame,.bool x.Write,.bool x.Dirty]
theorem aUh:∀x,(yI x).length=3:=λ_=>rfl
theorem aFc:∀x,noOwn (yI x)=true:=λ_=>rfl
theorem aEh:∀x,aS (yI x)=true:=λ_=>rfl
theorem uW:∀x,aG (yI x)=true:=λ_=>rfl
theorem aNb:∀x,aO (yI x)=true:=λ_=>rfl
def tY(x:DGuest):List AV:=[.bool x.Live,bo (eI .i64) x.C.Regs,.int .i64 x.C.Pc,.int .i64 x.C.Root,.int .i64 x.C.Vector,.int .i64 x.C.Saved,.bool x.C.SavedUser,.int .i64 x.C.Cause,.int .i64 x.C.Bad,.int .i64 x.C.Timer,.bool x.C.Waits,.bool x.C.User,.bool x.C.On,.bool x.C.Stopped,bo yI x.Pages,bo (eI .i64) x.In,bo (eI .i64) x.Out]
theorem aZq:∀x,noOwn (tY x)=true:=λ_=>rfl
theorem aDl:∀x,aS (tY x)=true:=λx=>by simp only[tY,aS,AV.clean,Bool.and_self,bN cX,bN aEh]
theorem uN:∀x,aG (tY x)=true:=λx=>by simp only[tY,aG,AV.noRef,Bool.and_self,aB bK,aB uW]
def fD(x:DGuest):List AV:=[.bool x.Live,.own 3 1 (List.length x.C.Regs) (fl (eI .i64) x.C.Regs),.int .i64 x.C.Pc,.int .i64 x.C.Root,.int .i64 x.C.Vector,.int .i64 x.C.Saved,.bool x.C.SavedUser,.int .i64 x.C.Cause,.int .i64 x.C.Bad,.int .i64 x.C.Timer,.bool x.C.Waits,.bool x.C.User,.bool x.C.On,.bool x.C.Stopped,.own 91 3 (List.length x.Pages) (fl fX x.Pages),.own 3 1 (List.length x.In) (fl (eI .i64) x.In),.own 3 1 (List.length x.Out) (fl (eI .i64) x.Out)]
theorem uK:∀x,(fD x).length=17:=λ_=>rfl
theorem jJ:∀x,aG (fD x)=true:=λx=>by simp only[fD,aG,AV.noRef,Bool.and_self,aB bK,aB nP]
theorem bEe:∀x,aO (fD x)=true:=λx=>by simp only[fD,aO,AV.noBor,Bool.and_self,bH aEz,bH aSg]
theorem bDr:mA fD hC:=λx H r π j h=>(aI (aF rfl) (aI (eJ (e:=3) rfl cC dD cX (h 1 _ rfl)) (aI (aF rfl) (aI (aF rfl) (aI (aF rfl) (aI (aF rfl) (aI (aF rfl) (aI (aF rfl) (aI (aF rfl) (aI (aF rfl) (aI (aF rfl) (aI (aF rfl) (aI (aF rfl) (aI (aF rfl) (aI (eJ (e:=91) rfl oP aJr aJi (h 14 _ rfl)) (aI (eJ (e:=3) rfl cC dD cX (h 15 _ rfl)) (aI (eJ (e:=3) rfl cC dD cX (h 16 _ rfl)) zU)))))))))))))))))
def aKf(x:DShade):List AV:=[.bool x.There,.bool x.Write,.bool x.User,.int .i64 x.Page,.int .i64 x.Frame,.bool x.Ready]
theorem aZh:∀x,noOwn (aKf x)=true:=λ_=>rfl
theorem bAb:∀x,aS (aKf x)=true:=λ_=>rfl
theorem aDw:∀x,aG (aKf x)=true:=λ_=>rfl
theorem aZr:∀x,aO (aKf x)=true:=λ_=>rfl
def aJs(x:DEntry):List AV:=[.bool x.There,.bool x.Write,.bool x.User,.int .i64 x.Page]
theorem aWr:∀x,noOwn (aJs x)=true:=λ_=>rfl
theorem aWi:∀x,aS (aJs x)=true:=λ_=>rfl
theorem aDo:∀x,aG (aJs x)=true:=λ_=>rfl
theorem aWf:∀x,aO (aJs x)=true:=λ_=>rfl
def aJo(x:DIns):List AV:=[.int .i64 x.Op,.int .i64 x.A,.int .i64 x.N]
theorem aZz:∀x,noOwn (aJo x)=true:=λ_=>rfl
theorem aYk:∀x,aS (aJo x)=true:=λ_=>rfl
theorem aFr:∀x,aG (aJo x)=true:=λ_=>rfl
theorem aYt:∀x,aO (aJo x)=true:=λ_=>rfl
def aJm(x:DExit):List AV:=[.int .i64 x.Why,.int .i64 x.Page,.int .i64 x.What.Op,.int .i64 x.What.A,.int .i64 x.What.N]
theorem aZn:∀x,noOwn (aJm x)=true:=λ_=>rfl
theorem aVw:∀x,aS (aJm x)=true:=λ_=>rfl
theorem aDx:∀x,aG (aJm x)=true:=λ_=>rfl
theorem aWv:∀x,aO (aJm x)=true:=λ_=>rfl
def aMh(x:DMove):List AV:=[bo (eI .i64) x.From.Words,bo hC x.From.Guests,bo (eI .i64) x.To.Words,bo hC x.To.Guests,.int .i64 x.G,.int .i64 x.N,bo eB x.Left]
theorem bDs:∀x,noOwn (aMh x)=true:=λ_=>rfl
theorem bEh:∀x,aS (aMh x)=true:=λx=>by simp only[aMh,aS,AV.clean,Bool.and_self,bN cX,bN aJn,bN aVp]
theorem aJt:∀x,aG (aMh x)=true:=λx=>by simp only[aMh,aG,AV.noRef,Bool.and_self,aB bK,aB yW,aB aEb]
def aSq(x:DAct):List AV:=[.int .i64 x.Kind,.int .i64 x.Page]
theorem bFb:∀x,noOwn (aSq x)=true:=λ_=>rfl
theorem bEk:∀x,aS (aSq x)=true:=λ_=>rfl
theorem aKc:∀x,aG (aSq x)=true:=λ_=>rfl
theorem bDm:∀x,aO (aSq x)=true:=λ_=>rfl
def aTd(x:DAct):List AV:=[.int .i64 x.Kind,.int .i64 x.Page]
theorem bDj:∀x,noOwn (aTd x)=true:=λ_=>rfl
theorem bEp:∀x,aS (aTd x)=true:=λ_=>rfl
theorem aJh:∀x,aG (aTd x)=true:=λ_=>rfl
theorem bEf:∀x,aO (aTd x)=true:=λ_=>rfl
def vB(x:DGuest):List AV:=[.bool x.Live,.own 3 1 (List.length x.C.Regs) (fl (eI .i64) x.C.Regs),.int .i64 x.C.Pc,.int .i64 x.C.Root,.int .i64 x.C.Vector,.int .i64 x.C.Saved,.bool x.C.SavedUser,.int .i64 x.C.Cause,.int .i64 x.C.Bad,.int .i64 x.C.Timer,.bool x.C.Waits,.bool x.C.User,.bool x.C.On,.bool x.C.Stopped,.own 211 3 (List.length x.Pages) (fl yI x.Pages),.own 3 1 (List.length x.In) (fl (eI .i64) x.In),.own 3 1 (List.length x.Out) (fl (eI .i64) x.Out)]
theorem uP:∀x,aG (vB x)=true:=λx=>by simp only[vB,aG,AV.noRef,Bool.and_self,aB bK,aB uW]
theorem aZg:∀x,aO (vB x)=true:=λx=>by simp only[vB,aO,AV.noBor,Bool.and_self,bH aEz,bH aNb]
theorem bMq:mA vB tY:=λx H r π j h=>(aI (aF rfl) (aI (eJ (e:=3) rfl cC dD cX (h 1 _ rfl)) (aI (aF rfl) (aI (aF rfl) (aI (aF rfl) (aI (aF rfl) (aI (aF rfl) (aI (aF rfl) (aI (aF rfl) (aI (aF rfl) (aI (aF rfl) (aI (aF rfl) (aI (aF rfl) (aI (aF rfl) (aI (eJ (e:=211) rfl aUh aFc aEh (h 14 _ rfl)) (aI (eJ (e:=3) rfl cC dD cX (h 15 _ rfl)) (aI (eJ (e:=3) rfl cC dD cX (h 16 _ rfl)) zU)))))))))))))))))
def aBd(x:Dl20Rd):List AV:=[bo (eI .u8) x.b,.int .i64 x.p]
theorem aVr:∀x,noOwn (aBd x)=true:=λ_=>rfl
theorem aXc:∀x,aS (aBd x)=true:=λx=>by simp only[aBd,aS,AV.clean,Bool.and_self,bN cX]
theorem aDk:∀x,aG (aBd x)=true:=λx=>by simp only[aBd,aG,AV.noRef,Bool.and_self,aB bK]
def aNr(x:DHost):List AV:=[bo (eI .i64) x.Words,bo tY x.Guests]
theorem bCf:∀x,noOwn (aNr x)=true:=λ_=>rfl
theorem bDg:∀x,aS (aNr x)=true:=λx=>by simp only[aNr,aS,AV.clean,Bool.and_self,bN cX,bN aDl]
theorem aKh:∀x,aG (aNr x)=true:=λx=>by simp only[aNr,aG,AV.noRef,Bool.and_self,aB bK,aB uN]
def aMv(x:DMove):List AV:=[bo (eI .i64) x.From.Words,bo tY x.From.Guests,bo (eI .i64) x.To.Words,bo tY x.To.Guests,.int .i64 x.G,.int .i64 x.N,bo eB x.Left]
theorem bCq:∀x,noOwn (aMv x)=true:=λ_=>rfl
theorem bCg:∀x,aS (aMv x)=true:=λx=>by simp only[aMv,aS,AV.clean,Bool.and_self,bN cX,bN aDl,bN aVp]
theorem aJv:∀x,aG (aMv x)=true:=λx=>by simp only[aMv,aG,AV.noRef,Bool.and_self,aB bK,aB uN,aB aEb]
def aAe(x:DCore):List AV:=[bo (eI .i64) x.Regs,.int .i64 x.Pc,.int .i64 x.Root,.int .i64 x.Vector,.int .i64 x.Saved,.bool x.SavedUser,.int .i64 x.Cause,.int .i64 x.Bad,.int .i64 x.Timer,.bool x.Waits,.bool x.User,.bool x.On,.bool x.Stopped]
theorem aXu:∀x,noOwn (aAe x)=true:=λ_=>rfl
theorem aYp:∀x,aS (aAe x)=true:=λx=>by simp only[aAe,aS,AV.clean,Bool.and_self,bN cX]
theorem aFg:∀x,aG (aAe x)=true:=λx=>by simp only[aAe,aG,AV.noRef,Bool.and_self,aB bK]
def aMr(x:DCore):List AV:=[.own 3 1 (List.length x.Regs) (fl (eI .i64) x.Regs),.int .i64 x.Pc,.int .i64 x.Root,.int .i64 x.Vector,.int .i64 x.Saved,.bool x.SavedUser,.int .i64 x.Cause,.int .i64 x.Bad,.int .i64 x.Timer,.bool x.Waits,.bool x.User,.bool x.On,.bool x.Stopped]
theorem aKb:∀x,aG (aMr x)=true:=λx=>by simp only[aMr,aG,AV.noRef,Bool.and_self,aB bK]
theorem bDf:∀x,aO (aMr x)=true:=λx=>by simp only[aMr,aO,AV.noBor,Bool.and_self,bH aEz]
theorem bUq:mA aMr aIo:=λx H r π j h=>(aI (eJ (e:=3) rfl cC dD cX (h 0 _ rfl)) (aI (aF rfl) (aI (aF rfl) (aI (aF rfl) (aI (aF rfl) (aI (aF rfl) (aI (aF rfl) (aI (aF rfl) (aI (aF rfl) (aI (aF rfl) (aI (aF rfl) (aI (aF rfl) (aI (aF rfl) zU)))))))))))))
def aMf(x:DBare):List AV:=[.own 3 1 (List.length x.C.Regs) (fl (eI .i64) x.C.Regs),.int .i64 x.C.Pc,.int .i64 x.C.Root,.int .i64 x.C.Vector,.int .i64 x.C.Saved,.bool x.C.SavedUser,.int .i64 x.C.Cause,.int .i64 x.C.Bad,.int .i64 x.C.Timer,.bool x.C.Waits,.bool x.C.User,.bool x.C.On,.bool x.C.Stopped,.own 3 1 (List.length x.Mem) (fl (eI .i64) x.Mem),.own 3 1 (List.length x.In) (fl (eI .i64) x.In),.own 3 1 (List.length x.Out) (fl (eI .i64) x.Out)]
theorem aJy:∀x,aG (aMf x)=true:=λx=>by simp only[aMf,aG,AV.noRef,Bool.and_self,aB bK]
theorem bFh:∀x,aO (aMf x)=true:=λx=>by simp only[aMf,aO,AV.noBor,Bool.and_self,bH aEz]
theorem bTs:mA aMf aIg:=λx H r π j h=>(aI (eJ (e:=3) rfl cC dD cX (h 0 _ rfl)) (aI (aF rfl) (aI (aF rfl) (aI (aF rfl) (aI (aF rfl) (aI (aF rfl) (aI (aF rfl) (aI (aF rfl) (aI (aF rfl) (aI (aF rfl) (aI (aF rfl) (aI (aF rfl) (aI (aF rfl) (aI (eJ (e:=3) rfl cC dD cX (h 13 _ rfl)) (aI (eJ (e:=3) rfl cC dD cX (h 14 _ rfl)) (aI (eJ (e:=3) rfl cC dD cX (h 15 _ rfl)) zU))))))))))))))))
def aEs(x:Dl20Rd):List AV:=[.own 5 1 (List.length x.b) (fl (eI .u8) x.b),.int .i64 x.p]
theorem aDp:∀x,aG (aEs x)=true:=λx=>by simp only[aEs,aG,AV.noRef,Bool.and_self,aB bK]
theorem aVv:∀x,aO (aEs x)=true:=λx=>by simp only[aEs,aO,AV.noBor,Bool.and_self,bH aEz]
theorem bRo:mA aEs aBd:=λx H r π j h=>(aI (eJ (e:=5) rfl cC dD cX (h 0 _ rfl)) (aI (aF rfl) zU))
def aFt(x:DCore):List AV:=[.own 3 1 (List.length x.Regs) (fl (eI .i64) x.Regs),.int .i64 x.Pc,.int .i64 x.Root,.int .i64 x.Vector,.int .i64 x.Saved,.bool x.SavedUser,.int .i64 x.Cause,.int .i64 x.Bad,.int .i64 x.Timer,.bool x.Waits,.bool x.User,.bool x.On,.bool x.Stopped]
theorem aFn:∀x,aG (aFt x)=true:=λx=>by simp only[aFt,aG,AV.noRef,Bool.and_self,aB bK]
theorem aWm:∀x,aO (aFt x)=true:=λx=>by simp only[aFt,aO,AV.noBor,Bool.and_self,bH aEz]
theorem bPj:mA aFt aAe:=λx H r π j h=>(aI (eJ (e:=3) rfl cC dD cX (h 0 _ rfl)) (aI (aF rfl) (aI (aF rfl) (aI (aF rfl) (aI (aF rfl) (aI (aF rfl) (aI (aF rfl) (aI (aF rfl) (aI (aF rfl) (aI (aF rfl) (aI (aF rfl) (aI (aF rfl) (aI (aF rfl) zU)))))))))))))
def cBz(x:DCore)(us:List AV):List AV:= .int .i64 x.Pc:: .int .i64 x.Root:: .int .i64 x.Vector:: .int .i64 x.Saved:: .bool x.SavedUser:: .int .i64 x.Cause:: .int .i64 x.Bad:: .int .i64 x.Timer:: .bool x.Waits:: .bool x.User:: .bool x.On:: .bool x.Stopped::us
def oA(us:List AV):List AV:= .int .i64 (0:Int):: .int .i64 (0:Int):: .int .i64 (0:Int):: .int .i64 (0:Int):: .bool false:: .int .i64 (0:Int):: .int .i64 (0:Int):: .int .i64 (0:Int):: .bool false:: .bool false:: .bool false:: .bool false::us
def cAs(x:DShade)(us:List AV):List AV:= .bool x.There:: .bool x.Write:: .bool x.User:: .int .i64 x.Page:: .int .i64 x.Frame:: .bool x.Ready::us
def bWc(us:List AV):List AV:= .bool false:: .bool false:: .bool false:: .int .i64 (0:Int):: .int .i64 (0:Int):: .bool false::us
def cAr(x:DEntry)(us:List AV):List AV:= .bool x.There:: .bool x.Write:: .bool x.User:: .int .i64 x.Page::us
def bZv(us:List AV):List AV:= .bool false:: .bool false:: .bool false:: .int .i64 (0:Int)::us
def cAh(x:DCore)(us:List AV):List AV:= .int .i64 x.Pc:: .int .i64 x.Root:: .int .i64 x.Vector:: .int .i64 x.Saved:: .bool x.SavedUser:: .int .i64 x.Cause:: .int .i64 x.Bad:: .int .i64 x.Timer:: .bool x.Waits:: .bool x.User:: .bool x.On:: .bool x.Stopped::us
def bXl(us:List AV):List AV:= .int .i64 (0:Int):: .int .i64 (0:Int):: .int .i64 (0:Int):: .int .i64 (0:Int):: .bool false:: .int .i64 (0:Int):: .int .i64 (0:Int):: .int .i64 (0:Int):: .bool false:: .bool false:: .bool false:: .bool false::us
theorem rz{ρ:Nat->Option Nat}{n:Nat}{vs us:List AV}(h:Rens ρ n vs us:=by repeat first|exact gG|refine bYp ?_|refine bXs ?_|refine aV bTi ?_|refine aV (lU ?_) ?_|refine aV (aJj dd rfl) ?_|refine aV vI ?_|refine aV (aWu dd rfl rfl) ?_|refine aV (bM (aL (aB aDk))) ?_|refine aV (bM (aL (aB aFg))) ?_|refine aV (bM (aL (aB uN))) ?_|refine aV (bM (aL (aB aJf))) ?_|refine aV (bM (aL (aB aJt))) ?_|refine aV (bM (aL (aB aKg))) ?_|refine aV (bM (aL (aB aJx))) ?_|refine aV (bM (aL (aB aKh))) ?_|refine aV (bM (aL (aB aJv))) ?_|refine aV (bM (aL (aB yW))) ?_|refine aV (bM (aL (aB aFr))) ?_|refine aV (bM (aL (aB aDw))) ?_|refine aV (bM (aL (aB aDx))) ?_|refine aV (bM (aL (aB aDo))) ?_|refine aV (bM (aL (aB uW))) ?_|refine aV (bM (aL (aB aKc))) ?_|refine aV (bM (aL (aB aJh))) ?_|refine aV (bM (aL (aB nP))) ?_|refine aV (bM (aL (aB aDp))) ?_|refine aV (bM (aL (aB aFn))) ?_|refine aV (bM (aL (aB uP))) ?_|refine aV (bM (aL (aB aKb))) ?_|refine aV (bM (aL (aB aJy))) ?_|refine aV (bM (aL (aB jJ))) ?_|refine aV (bM (aL (aB bK))) ?_|refine aV (bM (aL (aB aEb))) ?_):Rens ρ n vs us:=h
theorem nrr{p:Prop}(h:p:=by simp only[cAs,cAh,cAr,cBz,bWc,bXl,bZv,oA,AV.noRef,aG,AV.noBor,aO,Bool.and_self,aB aDk,aB aFg,aB uN,aB aJf,aB aJt,aB aKg,aB aJx,aB aKh,aB aJv,aB yW,aB aFr,aB aDw,aB aDx,aB aDo,aB uW,aB aKc,aB aJh,aB nP,aB aDp,aB aFn,aB uP,aB aKb,aB aJy,aB jJ,aB bK,aB aEb,aDk,aFg,uN,aJf,aJt,aKg,aJx,aKh,aJv,yW,aFr,aDw,aDx,aDo,uW,aKc,aJh,nP,aDp,aFn,uP,aKb,aJy,jJ,bH aYt,bH aZr,bH aWv,bH aWf,bH aNb,bH bDm,bH bEf,bH aSg,bH aVv,bH aWm,bH aZg,bH bDf,bH bFh,bH bEe,bH aEz,bH cAm,aYt,aZr,aWv,aWf,aNb,bDm,bEf,aSg,aVv,aWm,aZg,bDf,bFh,bEe]):p:=h
abbrev zc0:List AV:=[bb false,.nil,ii 0,ii 0,ii 0,ii 0,bb false,ii 0,ii 0,ii 0,bb false,bb false,bb false,bb false,.nil,.nil,.nil]
abbrev rI_3(x:List Int):Root:=⟨3,fl (eI .i64) x⟩
abbrev rC91(x:List DSlot):Root:=⟨91,fl fX x⟩
abbrev rO94(x:List DGuest):Root:=⟨94,fl fD x⟩
abbrev rB26(x:DHost):Root:=⟨26,gW x⟩
end Go.Proofs.YtcgggihjcelmhaaGreat
