/- The types of the plain functions. Made by program. -/
import Derived.Test.YtcgggihjcelmhaaZY
import Derived.Test.YtcgggihjcelmhaaProg
namespace Go.Proofs.Ytcgggihjcelmhaa
open Go.RowKit
set_option maxRecDepth 100000
set_option linter.all false
set_option maxHeartbeats 0
noncomputable def rg:=bOe Try.prog
abbrev LW(k:Nat)(L:LFun):Prop:=jI Try.prog k=some L
structure DCore where
 Regs:List Int
 Pc:Int
 Root:Int
 Vector:Int
 Saved:Int
 SavedUser:Bool
 Cause:Int
 Bad:Int
 Timer:Int
 Waits:Bool
 User:Bool
 On:Bool
 Stopped:Bool
deriving Inhabited
structure DSlot where
 Frame:Int
 Write:Bool
 Dirty:Bool
deriving Inhabited
structure DGuest where
 Live:Bool
 C:DCore
 Pages:List DSlot
 In:List Int
 Out:List Int
deriving Inhabited
structure DHost where
 Words:List Int
 Guests:List DGuest
deriving Inhabited
structure DMove where
 From:DHost
 To:DHost
 G:Int
 N:Int
 Left:List Bool
deriving Inhabited
structure DBare where
 C:DCore
 Mem:List Int
 In:List Int
 Out:List Int
deriving Inhabited
structure DAct where
 Kind:Int
 Page:Int
deriving Inhabited
structure Dl20Rd where
 b:List Int
 p:Int
deriving Inhabited
structure DIns where
 Op:Int
 A:Int
 N:Int
deriving Inhabited
structure DShade where
 There:Bool
 Write:Bool
 User:Bool
 Page:Int
 Frame:Int
 Ready:Bool
deriving Inhabited
structure DEntry where
 There:Bool
 Write:Bool
 User:Bool
 Page:Int
deriving Inhabited
structure DExit where
 Why:Int
 Page:Int
 What:DIns
deriving Inhabited
def pQ(x:DBare):List AV:=[bo (eI .i64) x.C.Regs,.int .i64 x.C.Pc,.int .i64 x.C.Root,.int .i64 x.C.Vector,.int .i64 x.C.Saved,.bool x.C.SavedUser,.int .i64 x.C.Cause,.int .i64 x.C.Bad,.int .i64 x.C.Timer,.bool x.C.Waits,.bool x.C.User,.bool x.C.On,.bool x.C.Stopped,bo (eI .i64) x.Mem,bo (eI .i64) x.In,bo (eI .i64) x.Out]
theorem aWc:∀x,noOwn (pQ x)=true:=λ_=>rfl
theorem aFd:∀x,aZ (pQ x)=true:=λx=>by simp only[pQ,aZ,AV.clean,Bool.and_self,aL aP]
theorem aEq:∀x,aI (pQ x)=true:=λx=>by simp only[pQ,aI,AV.noRef,Bool.and_self,aB bU]
def wE(x:DCore):List AV:=[bo (eI .i64) x.Regs,.int .i64 x.Pc,.int .i64 x.Root,.int .i64 x.Vector,.int .i64 x.Saved,.bool x.SavedUser,.int .i64 x.Cause,.int .i64 x.Bad,.int .i64 x.Timer,.bool x.Waits,.bool x.User,.bool x.On,.bool x.Stopped]
theorem aWl:∀x,noOwn (wE x)=true:=λ_=>rfl
theorem aLu:∀x,aZ (wE x)=true:=λx=>by simp only[wE,aZ,AV.clean,Bool.and_self,aL aP]
theorem aFn:∀x,aI (wE x)=true:=λx=>by simp only[wE,aI,AV.noRef,Bool.and_self,aB bU]
def hZ(x:DSlot):List AV:=[.int .i64 x.Frame,.bool x.Write,.bool x.Dirty]
theorem xC:∀x,(hZ x).length=3:=λ_=>rfl
theorem aFb:∀x,noOwn (hZ x)=true:=λ_=>rfl
theorem vX:∀x,aZ (hZ x)=true:=λ_=>rfl
theorem jU:∀x,aI (hZ x)=true:=λ_=>rfl
theorem aLy:∀x,aT (hZ x)=true:=λ_=>rfl
def bG(x:DGuest):List AV:=[.bool x.Live,bo (eI .i64) x.C.Regs,.int .i64 x.C.Pc,.int .i64 x.C.Root,.int .i64 x.C.Vector,.int .i64 x.C.Saved,.bool x.C.SavedUser,.int .i64 x.C.Cause,.int .i64 x.C.Bad,.int .i64 x.C.Timer,.bool x.C.Waits,.bool x.C.User,.bool x.C.On,.bool x.C.Stopped,bo hZ x.Pages,bo (eI .i64) x.In,bo (eI .i64) x.Out]
theorem aQz:∀x,(bG x).length=17:=λ_=>rfl
theorem aVn:∀x,noOwn (bG x)=true:=λ_=>rfl
theorem vR:∀x,aZ (bG x)=true:=λx=>by simp only[bG,aZ,AV.clean,Bool.and_self,aL aP,aL vX]
theorem vO:∀x,aI (bG x)=true:=λx=>by simp only[bG,aI,AV.noRef,Bool.and_self,aB bU,aB jU]
def fU(x:DHost):List AV:=[bo (eI .i64) x.Words,bo bG x.Guests]
theorem aWi:∀x,noOwn (fU x)=true:=λ_=>rfl
theorem rE:∀x,aZ (fU x)=true:=λx=>by simp only[fU,aZ,AV.clean,Bool.and_self,aL aP,aL vR]
theorem aEy:∀x,aI (fU x)=true:=λx=>by simp only[fU,aI,AV.noRef,Bool.and_self,aB bU,aB vO]
def qK(x:DSlot):List AV:=[.int .i64 x.Frame,.bool x.Write,.bool x.Dirty]
theorem aNx:∀x,(qK x).length=3:=λ_=>rfl
theorem aAi:∀x,noOwn (qK x)=true:=λ_=>rfl
theorem wZ:∀x,aZ (qK x)=true:=λ_=>rfl
theorem sV:∀x,aI (qK x)=true:=λ_=>rfl
theorem aId:∀x,aT (qK x)=true:=λ_=>rfl
def cG(x:DGuest):List AV:=[.bool x.Live,bo (eI .i64) x.C.Regs,.int .i64 x.C.Pc,.int .i64 x.C.Root,.int .i64 x.C.Vector,.int .i64 x.C.Saved,.bool x.C.SavedUser,.int .i64 x.C.Cause,.int .i64 x.C.Bad,.int .i64 x.C.Timer,.bool x.C.Waits,.bool x.C.User,.bool x.C.On,.bool x.C.Stopped,bo qK x.Pages,bo (eI .i64) x.In,bo (eI .i64) x.Out]
theorem aTp:∀x,noOwn (cG x)=true:=λ_=>rfl
theorem oE:∀x,aZ (cG x)=true:=λx=>by simp only[cG,aZ,AV.clean,Bool.and_self,aL aP,aL wZ]
theorem sY:∀x,aI (cG x)=true:=λx=>by simp only[cG,aI,AV.noRef,Bool.and_self,aB bU,aB sV]
def bB(x:DGuest):List AV:=[.bool x.Live,.own 3 1 (List.length x.C.Regs) (fl (eI .i64) x.C.Regs),.int .i64 x.C.Pc,.int .i64 x.C.Root,.int .i64 x.C.Vector,.int .i64 x.C.Saved,.bool x.C.SavedUser,.int .i64 x.C.Cause,.int .i64 x.C.Bad,.int .i64 x.C.Timer,.bool x.C.Waits,.bool x.C.User,.bool x.C.On,.bool x.C.Stopped,.own 66 3 (List.length x.Pages) (fl hZ x.Pages),.own 3 1 (List.length x.In) (fl (eI .i64) x.In),.own 3 1 (List.length x.Out) (fl (eI .i64) x.Out)]
theorem aE:∀x,(bB x).length=17:=λ_=>rfl
theorem bZ:∀x,aI (bB x)=true:=λx=>by simp only[bB,aI,AV.noRef,Bool.and_self,aB bU,aB jU]
theorem aXg:∀x,aT (bB x)=true:=λx=>by simp only[bB,aT,AV.noBor,Bool.and_self,cD aBs,cD aLy]
theorem aY:mG bB bG:=λx H r π j h=>(aA (aC rfl) (aA (aH (e:=3) rfl aN aU aP (h 1 _ rfl)) (aA (aC rfl) (aA (aC rfl) (aA (aC rfl) (aA (aC rfl) (aA (aC rfl) (aA (aC rfl) (aA (aC rfl) (aA (aC rfl) (aA (aC rfl) (aA (aC rfl) (aA (aC rfl) (aA (aC rfl) (aA (aH (e:=66) rfl xC aFb vX (h 14 _ rfl)) (aA (aH (e:=3) rfl aN aU aP (h 15 _ rfl)) (aA (aH (e:=3) rfl aN aU aP (h 16 _ rfl)) bX)))))))))))))))))
def aFh(x:DShade):List AV:=[.bool x.There,.bool x.Write,.bool x.User,.int .i64 x.Page,.int .i64 x.Frame,.bool x.Ready]
theorem aRr:∀x,noOwn (aFh x)=true:=λ_=>rfl
theorem aIo:∀x,aZ (aFh x)=true:=λ_=>rfl
theorem aAw:∀x,aI (aFh x)=true:=λ_=>rfl
theorem aQq:∀x,aT (aFh x)=true:=λ_=>rfl
def aEz(x:DEntry):List AV:=[.bool x.There,.bool x.Write,.bool x.User,.int .i64 x.Page]
theorem aRx:∀x,noOwn (aEz x)=true:=λ_=>rfl
theorem aHg:∀x,aZ (aEz x)=true:=λ_=>rfl
theorem aBf:∀x,aI (aEz x)=true:=λ_=>rfl
theorem aRe:∀x,aT (aEz x)=true:=λ_=>rfl
def aFl(x:DIns):List AV:=[.int .i64 x.Op,.int .i64 x.A,.int .i64 x.N]
theorem aTv:∀x,noOwn (aFl x)=true:=λ_=>rfl
theorem aIp:∀x,aZ (aFl x)=true:=λ_=>rfl
theorem aBd:∀x,aI (aFl x)=true:=λ_=>rfl
theorem aTh:∀x,aT (aFl x)=true:=λ_=>rfl
def aEw(x:DExit):List AV:=[.int .i64 x.Why,.int .i64 x.Page,.int .i64 x.What.Op,.int .i64 x.What.A,.int .i64 x.What.N]
theorem aSr:∀x,noOwn (aEw x)=true:=λ_=>rfl
theorem aHx:∀x,aZ (aEw x)=true:=λ_=>rfl
theorem aBq:∀x,aI (aEw x)=true:=λ_=>rfl
theorem aRn:∀x,aT (aEw x)=true:=λ_=>rfl
def uJ(x:DMove):List AV:=[bo (eI .i64) x.From.Words,bo bG x.From.Guests,bo (eI .i64) x.To.Words,bo bG x.To.Guests,.int .i64 x.G,.int .i64 x.N,bo eB x.Left]
theorem aWb:∀x,noOwn (uJ x)=true:=λ_=>rfl
theorem aMs:∀x,aZ (uJ x)=true:=λx=>by simp only[uJ,aZ,AV.clean,Bool.and_self,aL aP,aL vR,aL iP]
theorem aEr:∀x,aI (uJ x)=true:=λx=>by simp only[uJ,aI,AV.noRef,Bool.and_self,aB bU,aB vO,aB jO]
def aFf(x:DAct):List AV:=[.int .i64 x.Kind,.int .i64 x.Page]
theorem aPy:∀x,noOwn (aFf x)=true:=λ_=>rfl
theorem aHh:∀x,aZ (aFf x)=true:=λ_=>rfl
theorem aBm:∀x,aI (aFf x)=true:=λ_=>rfl
theorem aPj:∀x,aT (aFf x)=true:=λ_=>rfl
def xI(x:Dl20Rd):List AV:=[bo (eI .u8) x.b,.int .i64 x.p]
theorem aPq:∀x,noOwn (xI x)=true:=λ_=>rfl
theorem aIq:∀x,aZ (xI x)=true:=λx=>by simp only[xI,aZ,AV.clean,Bool.and_self,aL aP]
theorem zZ:∀x,aI (xI x)=true:=λx=>by simp only[xI,aI,AV.noRef,Bool.and_self,aB bU]
def aIk(x:DHost):List AV:=[bo (eI .i64) x.Words,bo cG x.Guests]
theorem aVp:∀x,noOwn (aIk x)=true:=λ_=>rfl
theorem aMb:∀x,aZ (aIk x)=true:=λx=>by simp only[aIk,aZ,AV.clean,Bool.and_self,aL aP,aL oE]
theorem aEu:∀x,aI (aIk x)=true:=λx=>by simp only[aIk,aI,AV.noRef,Bool.and_self,aB bU,aB sY]
def lG(x:DMove):List AV:=[bo (eI .i64) x.From.Words,bo cG x.From.Guests,bo (eI .i64) x.To.Words,bo cG x.To.Guests,.int .i64 x.G,.int .i64 x.N,bo eB x.Left]
theorem aWn:∀x,noOwn (lG x)=true:=λ_=>rfl
theorem aFg:∀x,aZ (lG x)=true:=λx=>by simp only[lG,aZ,AV.clean,Bool.and_self,aL aP,aL oE,aL iP]
theorem aEo:∀x,aI (lG x)=true:=λx=>by simp only[lG,aI,AV.noRef,Bool.and_self,aB bU,aB sY,aB jO]
def xF(x:DCore):List AV:=[bo (eI .i64) x.Regs,.int .i64 x.Pc,.int .i64 x.Root,.int .i64 x.Vector,.int .i64 x.Saved,.bool x.SavedUser,.int .i64 x.Cause,.int .i64 x.Bad,.int .i64 x.Timer,.bool x.Waits,.bool x.User,.bool x.On,.bool x.Stopped]
theorem aRz:∀x,noOwn (xF x)=true:=λ_=>rfl
theorem aIg:∀x,aZ (xF x)=true:=λx=>by simp only[xF,aZ,AV.clean,Bool.and_self,aL aP]
theorem aAg:∀x,aI (xF x)=true:=λx=>by simp only[xF,aI,AV.noRef,Bool.and_self,aB bU]
def aIm(x:DCore):List AV:=[.own 3 1 (List.length x.Regs) (fl (eI .i64) x.Regs),.int .i64 x.Pc,.int .i64 x.Root,.int .i64 x.Vector,.int .i64 x.Saved,.bool x.SavedUser,.int .i64 x.Cause,.int .i64 x.Bad,.int .i64 x.Timer,.bool x.Waits,.bool x.User,.bool x.On,.bool x.Stopped]
theorem aEx:∀x,aI (aIm x)=true:=λx=>by simp only[aIm,aI,AV.noRef,Bool.and_self,aB bU]
theorem aWo:∀x,aT (aIm x)=true:=λx=>by simp only[aIm,aT,AV.noBor,Bool.and_self,cD aBs]
theorem bHl:mG aIm wE:=λx H r π j h=>(aA (aH (e:=3) rfl aN aU aP (h 0 _ rfl)) (aA (aC rfl) (aA (aC rfl) (aA (aC rfl) (aA (aC rfl) (aA (aC rfl) (aA (aC rfl) (aA (aC rfl) (aA (aC rfl) (aA (aC rfl) (aA (aC rfl) (aA (aC rfl) (aA (aC rfl) bX)))))))))))))
def aIz(x:DBare):List AV:=[.own 3 1 (List.length x.C.Regs) (fl (eI .i64) x.C.Regs),.int .i64 x.C.Pc,.int .i64 x.C.Root,.int .i64 x.C.Vector,.int .i64 x.C.Saved,.bool x.C.SavedUser,.int .i64 x.C.Cause,.int .i64 x.C.Bad,.int .i64 x.C.Timer,.bool x.C.Waits,.bool x.C.User,.bool x.C.On,.bool x.C.Stopped,.own 3 1 (List.length x.Mem) (fl (eI .i64) x.Mem),.own 3 1 (List.length x.In) (fl (eI .i64) x.In),.own 3 1 (List.length x.Out) (fl (eI .i64) x.Out)]
theorem aFc:∀x,aI (aIz x)=true:=λx=>by simp only[aIz,aI,AV.noRef,Bool.and_self,aB bU]
theorem aVw:∀x,aT (aIz x)=true:=λx=>by simp only[aIz,aT,AV.noBor,Bool.and_self,cD aBs]
theorem bIg:mG aIz pQ:=λx H r π j h=>(aA (aH (e:=3) rfl aN aU aP (h 0 _ rfl)) (aA (aC rfl) (aA (aC rfl) (aA (aC rfl) (aA (aC rfl) (aA (aC rfl) (aA (aC rfl) (aA (aC rfl) (aA (aC rfl) (aA (aC rfl) (aA (aC rfl) (aA (aC rfl) (aA (aC rfl) (aA (aH (e:=3) rfl aN aU aP (h 13 _ rfl)) (aA (aH (e:=3) rfl aN aU aP (h 14 _ rfl)) (aA (aH (e:=3) rfl aN aU aP (h 15 _ rfl)) bX))))))))))))))))
def aAl(x:Dl20Rd):List AV:=[.own 5 1 (List.length x.b) (fl (eI .u8) x.b),.int .i64 x.p]
theorem zT:∀x,aI (aAl x)=true:=λx=>by simp only[aAl,aI,AV.noRef,Bool.and_self,aB bU]
theorem aTs:∀x,aT (aAl x)=true:=λx=>by simp only[aAl,aT,AV.noBor,Bool.and_self,cD aBs]
theorem bEr:mG aAl xI:=λx H r π j h=>(aA (aH (e:=5) rfl aN aU aP (h 0 _ rfl)) (aA (aC rfl) bX))
def aAz(x:DCore):List AV:=[.own 3 1 (List.length x.Regs) (fl (eI .i64) x.Regs),.int .i64 x.Pc,.int .i64 x.Root,.int .i64 x.Vector,.int .i64 x.Saved,.bool x.SavedUser,.int .i64 x.Cause,.int .i64 x.Bad,.int .i64 x.Timer,.bool x.Waits,.bool x.User,.bool x.On,.bool x.Stopped]
theorem zU:∀x,aI (aAz x)=true:=λx=>by simp only[aAz,aI,AV.noRef,Bool.and_self,aB bU]
theorem aQn:∀x,aT (aAz x)=true:=λx=>by simp only[aAz,aT,AV.noBor,Bool.and_self,cD aBs]
theorem bEq:mG aAz xF:=λx H r π j h=>(aA (aH (e:=3) rfl aN aU aP (h 0 _ rfl)) (aA (aC rfl) (aA (aC rfl) (aA (aC rfl) (aA (aC rfl) (aA (aC rfl) (aA (aC rfl) (aA (aC rfl) (aA (aC rfl) (aA (aC rfl) (aA (aC rfl) (aA (aC rfl) (aA (aC rfl) bX)))))))))))))
def tL(x:DGuest):List AV:=[.bool x.Live,.own 3 1 (List.length x.C.Regs) (fl (eI .i64) x.C.Regs),.int .i64 x.C.Pc,.int .i64 x.C.Root,.int .i64 x.C.Vector,.int .i64 x.C.Saved,.bool x.C.SavedUser,.int .i64 x.C.Cause,.int .i64 x.C.Bad,.int .i64 x.C.Timer,.bool x.C.Waits,.bool x.C.User,.bool x.C.On,.bool x.C.Stopped,.own 172 3 (List.length x.Pages) (fl qK x.Pages),.own 3 1 (List.length x.In) (fl (eI .i64) x.In),.own 3 1 (List.length x.Out) (fl (eI .i64) x.Out)]
theorem tI:∀x,aI (tL x)=true:=λx=>by simp only[tL,aI,AV.noRef,Bool.and_self,aB bU,aB sV]
theorem aSp:∀x,aT (tL x)=true:=λx=>by simp only[tL,aT,AV.noBor,Bool.and_self,cD aBs,cD aId]
theorem bEe:mG tL cG:=λx H r π j h=>(aA (aC rfl) (aA (aH (e:=3) rfl aN aU aP (h 1 _ rfl)) (aA (aC rfl) (aA (aC rfl) (aA (aC rfl) (aA (aC rfl) (aA (aC rfl) (aA (aC rfl) (aA (aC rfl) (aA (aC rfl) (aA (aC rfl) (aA (aC rfl) (aA (aC rfl) (aA (aC rfl) (aA (aH (e:=172) rfl aNx aAi wZ (h 14 _ rfl)) (aA (aH (e:=3) rfl aN aU aP (h 15 _ rfl)) (aA (aH (e:=3) rfl aN aU aP (h 16 _ rfl)) bX)))))))))))))))))
def bNq(x:DCore)(us:List AV):List AV:= .int .i64 x.Pc:: .int .i64 x.Root:: .int .i64 x.Vector:: .int .i64 x.Saved:: .bool x.SavedUser:: .int .i64 x.Cause:: .int .i64 x.Bad:: .int .i64 x.Timer:: .bool x.Waits:: .bool x.User:: .bool x.On:: .bool x.Stopped::us
def nV(us:List AV):List AV:= .int .i64 (0:Int):: .int .i64 (0:Int):: .int .i64 (0:Int):: .int .i64 (0:Int):: .bool false:: .int .i64 (0:Int):: .int .i64 (0:Int):: .int .i64 (0:Int):: .bool false:: .bool false:: .bool false:: .bool false::us
def bMw(x:DShade)(us:List AV):List AV:= .bool x.There:: .bool x.Write:: .bool x.User:: .int .i64 x.Page:: .int .i64 x.Frame:: .bool x.Ready::us
def bJt(us:List AV):List AV:= .bool false:: .bool false:: .bool false:: .int .i64 (0:Int):: .int .i64 (0:Int):: .bool false::us
def bNc(x:DEntry)(us:List AV):List AV:= .bool x.There:: .bool x.Write:: .bool x.User:: .int .i64 x.Page::us
def bLv(us:List AV):List AV:= .bool false:: .bool false:: .bool false:: .int .i64 (0:Int)::us
def bMl(x:DCore)(us:List AV):List AV:= .int .i64 x.Pc:: .int .i64 x.Root:: .int .i64 x.Vector:: .int .i64 x.Saved:: .bool x.SavedUser:: .int .i64 x.Cause:: .int .i64 x.Bad:: .int .i64 x.Timer:: .bool x.Waits:: .bool x.User:: .bool x.On:: .bool x.Stopped::us
def bJx(us:List AV):List AV:= .int .i64 (0:Int):: .int .i64 (0:Int):: .int .i64 (0:Int):: .int .i64 (0:Int):: .bool false:: .int .i64 (0:Int):: .int .i64 (0:Int):: .int .i64 (0:Int):: .bool false:: .bool false:: .bool false:: .bool false::us
theorem rz{ρ:Nat->Option Nat}{n:Nat}{vs us:List AV}(h:Rens ρ n vs us:=by repeat first|exact gT|refine bJy ?_|refine bMg ?_|refine bL bIr ?_|refine bL (rH ?_) ?_|refine bL (aLo dd rfl) ?_|refine bL aJs ?_|refine bL (aPn dd rfl rfl) ?_|refine bL (cI (aO (aB zZ))) ?_|refine bL (cI (aO (aB aAg))) ?_|refine bL (cI (aO (aB sY))) ?_|refine bL (cI (aO (aB aEy))) ?_|refine bL (cI (aO (aB aEr))) ?_|refine bL (cI (aO (aB aEu))) ?_|refine bL (cI (aO (aB aEo))) ?_|refine bL (cI (aO (aB aFn))) ?_|refine bL (cI (aO (aB vO))) ?_|refine bL (cI (aO (aB aEq))) ?_|refine bL (cI (aO (aB aBm))) ?_|refine bL (cI (aO (aB aBd))) ?_|refine bL (cI (aO (aB aAw))) ?_|refine bL (cI (aO (aB aBf))) ?_|refine bL (cI (aO (aB sV))) ?_|refine bL (cI (aO (aB aBq))) ?_|refine bL (cI (aO (aB jU))) ?_|refine bL (cI (aO (aB zT))) ?_|refine bL (cI (aO (aB zU))) ?_|refine bL (cI (aO (aB tI))) ?_|refine bL (cI (aO (aB aEx))) ?_|refine bL (cI (aO (aB bZ))) ?_|refine bL (cI (aO (aB aFc))) ?_|refine bL (cI (aO (aB bU))) ?_|refine bL (cI (aO (aB jO))) ?_):Rens ρ n vs us:=h
theorem cz{H:Heap}{vs us:List AV}(h:Clos H vs us:=by repeat first|exact bX|refine cs1 ?_|refine aA (aC (cP (aL aIq))) ?_|refine aA (aC (cP (aL aIg))) ?_|refine aA (aC (cP (aL oE))) ?_|refine aA (aC (cP (aL rE))) ?_|refine aA (aC (cP (aL aMs))) ?_|refine aA (aC (cP (aL aMb))) ?_|refine aA (aC (cP (aL aFg))) ?_|refine aA (aC (cP (aL aLu))) ?_|refine aA (aC (cP (aL vR))) ?_|refine aA (aC (cP (aL aFd))) ?_|refine aA (aC (cP (aL aHh))) ?_|refine aA (aC (cP (aL aIp))) ?_|refine aA (aC (cP (aL aIo))) ?_|refine aA (aC (cP (aL aHg))) ?_|refine aA (aC (cP (aL wZ))) ?_|refine aA (aC (cP (aL aHx))) ?_|refine aA (aC (cP (aL vX))) ?_|refine aA (aC (cP (aL aP))) ?_|refine aA (aC (cP (aL iP))) ?_):Clos H vs us:=h
theorem nrr{p:Prop}(h:p:=by simp only[bMl,bMw,bNc,bNq,bJx,bJt,bLv,nV,AV.noRef,aI,AV.noBor,aT,Bool.and_self,aB zZ,aB aAg,aB sY,aB aEy,aB aEr,aB aEu,aB aEo,aB aFn,aB vO,aB aEq,aB aBm,aB aBd,aB aAw,aB aBf,aB sV,aB aBq,aB jU,aB zT,aB zU,aB tI,aB aEx,aB bZ,aB aFc,aB bU,aB jO,zZ,aAg,sY,aEy,aEr,aEu,aEo,aFn,vO,aEq,aBm,aBd,aAw,aBf,sV,aBq,jU,zT,zU,tI,aEx,bZ,aFc,cD aPj,cD aTh,cD aQq,cD aRe,cD aId,cD aRn,cD aLy,cD aTs,cD aQn,cD aSp,cD aWo,cD aXg,cD aVw,cD aBs,cD bMp,aPj,aTh,aQq,aRe,aId,aRn,aLy,aTs,aQn,aSp,aWo,aXg,aVw]):p:=h
abbrev rI_3(x:List Int):Root:=⟨3,fl (eI .i64) x⟩
abbrev rC66(x:List DSlot):Root:=⟨66,fl hZ x⟩
abbrev rO64(x:List DGuest):Root:=⟨64,fl bB x⟩
abbrev rB26(x:DHost):Root:=⟨26,fU x⟩
abbrev rT_4(x:List Bool):Root:=⟨4,fl eB x⟩
abbrev rB44(x:DMove):Root:=⟨44,lG x⟩
end Go.Proofs.Ytcgggihjcelmhaa
