/- The types of the plain functions. Made by program. -/
import Derived.Test.YtkjabgefacfpfaaZY
import Derived.Test.YtkjabgefacfpfaaProg
namespace Go.Proofs.Ytkjabgefacfpfaa
open Go.RowKit
set_option maxRecDepth 100000
set_option linter.all false
set_option maxHeartbeats 0
noncomputable def rg:=bEs Try.prog
abbrev LW(k:Nat)(L:LFun):Prop:=fC Try.prog k=some L
structure DCore where
 Regs:List Int
 Pc:Int
 Root:Int
 Vector:Int
 Saved:Int
 SavedUser:Bool
 Cause:Int
 Bad:Int
 Timer:Int
 Waits:Bool
 User:Bool
 On:Bool
 Stopped:Bool
deriving Inhabited
structure DSlot where
 Frame:Int
 Write:Bool
 Dirty:Bool
deriving Inhabited
structure DGuest where
 Live:Bool
 C:DCore
 Pages:List DSlot
 In:List Int
 Out:List Int
deriving Inhabited
structure DHost where
 Words:List Int
 Guests:List DGuest
deriving Inhabited
structure DShade where
 There:Bool
 Write:Bool
 User:Bool
 Page:Int
 Frame:Int
 Ready:Bool
deriving Inhabited
structure DLine where
 Tag:Int
 At:Int
 What:DShade
deriving Inhabited
structure DBare where
 C:DCore
 Mem:List Int
 In:List Int
 Out:List Int
deriving Inhabited
structure Dl20Rd where
 b:List Int
 p:Int
deriving Inhabited
structure DEntry where
 There:Bool
 Write:Bool
 User:Bool
 Page:Int
deriving Inhabited
structure DIns where
 Op:Int
 A:Int
 N:Int
deriving Inhabited
def yP(x:DBare):List AV:=[bo (eI .i64) x.C.Regs,.int .i64 x.C.Pc,.int .i64 x.C.Root,.int .i64 x.C.Vector,.int .i64 x.C.Saved,.bool x.C.SavedUser,.int .i64 x.C.Cause,.int .i64 x.C.Bad,.int .i64 x.C.Timer,.bool x.C.Waits,.bool x.C.User,.bool x.C.On,.bool x.C.Stopped,bo (eI .i64) x.Mem,bo (eI .i64) x.In,bo (eI .i64) x.Out]
theorem aNr:∀x,noOwn (yP x)=true:=λ_=>rfl
theorem aOi:∀x,aT (yP x)=true:=λx=>by simp only[yP,aT,AV.clean,Bool.and_self,cD dB]
theorem aAd:∀x,aH (yP x)=true:=λx=>by simp only[yP,aH,AV.noRef,Bool.and_self,aB bV]
def xZ(x:DCore):List AV:=[bo (eI .i64) x.Regs,.int .i64 x.Pc,.int .i64 x.Root,.int .i64 x.Vector,.int .i64 x.Saved,.bool x.SavedUser,.int .i64 x.Cause,.int .i64 x.Bad,.int .i64 x.Timer,.bool x.Waits,.bool x.User,.bool x.On,.bool x.Stopped]
theorem aOp:∀x,noOwn (xZ x)=true:=λ_=>rfl
theorem aOk:∀x,aT (xZ x)=true:=λx=>by simp only[xZ,aT,AV.clean,Bool.and_self,cD dB]
theorem zR:∀x,aH (xZ x)=true:=λx=>by simp only[xZ,aH,AV.noRef,Bool.and_self,aB bV]
def lW(x:DSlot):List AV:=[.int .i64 x.Frame,.bool x.Write,.bool x.Dirty]
theorem wX:∀x,(lW x).length=3:=λ_=>rfl
theorem zW:∀x,noOwn (lW x)=true:=λ_=>rfl
theorem zO:∀x,aT (lW x)=true:=λ_=>rfl
theorem jI:∀x,aH (lW x)=true:=λ_=>rfl
theorem aFl:∀x,aQ (lW x)=true:=λ_=>rfl
def nT(x:DGuest):List AV:=[.bool x.Live,bo (eI .i64) x.C.Regs,.int .i64 x.C.Pc,.int .i64 x.C.Root,.int .i64 x.C.Vector,.int .i64 x.C.Saved,.bool x.C.SavedUser,.int .i64 x.C.Cause,.int .i64 x.C.Bad,.int .i64 x.C.Timer,.bool x.C.Waits,.bool x.C.User,.bool x.C.On,.bool x.C.Stopped,bo lW x.Pages,bo (eI .i64) x.In,bo (eI .i64) x.Out]
theorem aUv:∀x,(nT x).length=17:=λ_=>rfl
theorem aOw:∀x,noOwn (nT x)=true:=λ_=>rfl
theorem aEx:∀x,aT (nT x)=true:=λx=>by simp only[nT,aT,AV.clean,Bool.and_self,cD dB,cD zO]
theorem uL:∀x,aH (nT x)=true:=λx=>by simp only[nT,aH,AV.noRef,Bool.and_self,aB bV,aB jI]
def mK(x:DHost):List AV:=[bo (eI .i64) x.Words,bo nT x.Guests]
theorem aNj:∀x,noOwn (mK x)=true:=λ_=>rfl
theorem aGa:∀x,aT (mK x)=true:=λx=>by simp only[mK,aT,AV.clean,Bool.and_self,cD dB,cD aEx]
theorem zV:∀x,aH (mK x)=true:=λx=>by simp only[mK,aH,AV.noRef,Bool.and_self,aB bV,aB uL]
def rN(x:DSlot):List AV:=[.int .i64 x.Frame,.bool x.Write,.bool x.Dirty]
theorem aGt:∀x,(rN x).length=3:=λ_=>rfl
theorem wY:∀x,noOwn (rN x)=true:=λ_=>rfl
theorem wS:∀x,aT (rN x)=true:=λ_=>rfl
theorem oP:∀x,aH (rN x)=true:=λ_=>rfl
theorem aCw:∀x,aQ (rN x)=true:=λ_=>rfl
def rJ(x:DGuest):List AV:=[.bool x.Live,bo (eI .i64) x.C.Regs,.int .i64 x.C.Pc,.int .i64 x.C.Root,.int .i64 x.C.Vector,.int .i64 x.C.Saved,.bool x.C.SavedUser,.int .i64 x.C.Cause,.int .i64 x.C.Bad,.int .i64 x.C.Timer,.bool x.C.Waits,.bool x.C.User,.bool x.C.On,.bool x.C.Stopped,bo rN x.Pages,bo (eI .i64) x.In,bo (eI .i64) x.Out]
theorem aKi:∀x,noOwn (rJ x)=true:=λ_=>rfl
theorem aBg:∀x,aT (rJ x)=true:=λx=>by simp only[rJ,aT,AV.clean,Bool.and_self,cD dB,cD wS]
theorem sJ:∀x,aH (rJ x)=true:=λx=>by simp only[rJ,aH,AV.noRef,Bool.and_self,aB bV,aB oP]
def oE(x:DGuest):List AV:=[.bool x.Live,.own 3 1 (List.length x.C.Regs) (fl (eI .i64) x.C.Regs),.int .i64 x.C.Pc,.int .i64 x.C.Root,.int .i64 x.C.Vector,.int .i64 x.C.Saved,.bool x.C.SavedUser,.int .i64 x.C.Cause,.int .i64 x.C.Bad,.int .i64 x.C.Timer,.bool x.C.Waits,.bool x.C.User,.bool x.C.On,.bool x.C.Stopped,.own 43 3 (List.length x.Pages) (fl lW x.Pages),.own 3 1 (List.length x.In) (fl (eI .i64) x.In),.own 3 1 (List.length x.Out) (fl (eI .i64) x.Out)]
theorem nJ:∀x,aH (oE x)=true:=λx=>by simp only[oE,aH,AV.noRef,Bool.and_self,aB bV,aB jI]
theorem aNw:∀x,aQ (oE x)=true:=λx=>by simp only[oE,aQ,AV.noBor,Bool.and_self,bC vX,bC aFl]
theorem aZd:iC oE nT:=λx H r π j h=>(aI (aD rfl) (aI (dL (e:=3) rfl bX cG dB (h 1 _ rfl)) (aI (aD rfl) (aI (aD rfl) (aI (aD rfl) (aI (aD rfl) (aI (aD rfl) (aI (aD rfl) (aI (aD rfl) (aI (aD rfl) (aI (aD rfl) (aI (aD rfl) (aI (aD rfl) (aI (aD rfl) (aI (dL (e:=43) rfl wX zW zO (h 14 _ rfl)) (aI (dL (e:=3) rfl bX cG dB (h 15 _ rfl)) (aI (dL (e:=3) rfl bX cG dB (h 16 _ rfl)) uY)))))))))))))))))
def aFs(x:DShade):List AV:=[.bool x.There,.bool x.Write,.bool x.User,.int .i64 x.Page,.int .i64 x.Frame,.bool x.Ready]
theorem aNt:∀x,noOwn (aFs x)=true:=λ_=>rfl
theorem aNo:∀x,aT (aFs x)=true:=λ_=>rfl
theorem zM:∀x,aH (aFs x)=true:=λ_=>rfl
theorem aNk:∀x,aQ (aFs x)=true:=λ_=>rfl
def aAg(x:DEntry):List AV:=[.bool x.There,.bool x.Write,.bool x.User,.int .i64 x.Page]
theorem aIr:∀x,noOwn (aAg x)=true:=λ_=>rfl
theorem aLj:∀x,aT (aAg x)=true:=λ_=>rfl
theorem vR:∀x,aH (aAg x)=true:=λ_=>rfl
theorem aJp:∀x,aQ (aAg x)=true:=λ_=>rfl
def zT(x:DIns):List AV:=[.int .i64 x.Op,.int .i64 x.A,.int .i64 x.N]
theorem aIj:∀x,noOwn (zT x)=true:=λ_=>rfl
theorem aLi:∀x,aT (zT x)=true:=λ_=>rfl
theorem wJ:∀x,aH (zT x)=true:=λ_=>rfl
theorem aHu:∀x,aQ (zT x)=true:=λ_=>rfl
def tA(x:DLine):List AV:=[.int .i64 x.Tag,.int .i64 x.At,.bool x.What.There,.bool x.What.Write,.bool x.What.User,.int .i64 x.What.Page,.int .i64 x.What.Frame,.bool x.What.Ready]
theorem aWr:∀x,(tA x).length=8:=λ_=>rfl
theorem aFc:∀x,noOwn (tA x)=true:=λ_=>rfl
theorem aFq:∀x,aT (tA x)=true:=λ_=>rfl
theorem vC:∀x,aH (tA x)=true:=λ_=>rfl
theorem aMr:∀x,aQ (tA x)=true:=λ_=>rfl
def rK(x:Dl20Rd):List AV:=[bo (eI .u8) x.b,.int .i64 x.p]
theorem aJn:∀x,noOwn (rK x)=true:=λ_=>rfl
theorem aIt:∀x,aT (rK x)=true:=λx=>by simp only[rK,aT,AV.clean,Bool.and_self,cD dB]
theorem iJ:∀x,aH (rK x)=true:=λx=>by simp only[rK,aH,AV.noRef,Bool.and_self,aB bV]
def aCc(x:DHost):List AV:=[bo (eI .i64) x.Words,bo rJ x.Guests]
theorem aMx:∀x,noOwn (aCc x)=true:=λ_=>rfl
theorem aOu:∀x,aT (aCc x)=true:=λx=>by simp only[aCc,aT,AV.clean,Bool.and_self,cD dB,cD aBg]
theorem zZ:∀x,aH (aCc x)=true:=λx=>by simp only[aCc,aH,AV.noRef,Bool.and_self,aB bV,aB sJ]
def tW(x:DCore):List AV:=[bo (eI .i64) x.Regs,.int .i64 x.Pc,.int .i64 x.Root,.int .i64 x.Vector,.int .i64 x.Saved,.bool x.SavedUser,.int .i64 x.Cause,.int .i64 x.Bad,.int .i64 x.Timer,.bool x.Waits,.bool x.User,.bool x.On,.bool x.Stopped]
theorem aKu:∀x,noOwn (tW x)=true:=λ_=>rfl
theorem aIi:∀x,aT (tW x)=true:=λx=>by simp only[tW,aT,AV.clean,Bool.and_self,cD dB]
theorem vS:∀x,aH (tW x)=true:=λx=>by simp only[tW,aH,AV.noRef,Bool.and_self,aB bV]
def aBp(x:DCore):List AV:=[.own 3 1 (List.length x.Regs) (fl (eI .i64) x.Regs),.int .i64 x.Pc,.int .i64 x.Root,.int .i64 x.Vector,.int .i64 x.Saved,.bool x.SavedUser,.int .i64 x.Cause,.int .i64 x.Bad,.int .i64 x.Timer,.bool x.Waits,.bool x.User,.bool x.On,.bool x.Stopped]
theorem aAe:∀x,aH (aBp x)=true:=λx=>by simp only[aBp,aH,AV.noRef,Bool.and_self,aB bV]
theorem aMl:∀x,aQ (aBp x)=true:=λx=>by simp only[aBp,aQ,AV.noBor,Bool.and_self,bC vX]
theorem aYp:iC aBp xZ:=λx H r π j h=>(aI (dL (e:=3) rfl bX cG dB (h 0 _ rfl)) (aI (aD rfl) (aI (aD rfl) (aI (aD rfl) (aI (aD rfl) (aI (aD rfl) (aI (aD rfl) (aI (aD rfl) (aI (aD rfl) (aI (aD rfl) (aI (aD rfl) (aI (aD rfl) (aI (aD rfl) uY)))))))))))))
def aCt(x:DBare):List AV:=[.own 3 1 (List.length x.C.Regs) (fl (eI .i64) x.C.Regs),.int .i64 x.C.Pc,.int .i64 x.C.Root,.int .i64 x.C.Vector,.int .i64 x.C.Saved,.bool x.C.SavedUser,.int .i64 x.C.Cause,.int .i64 x.C.Bad,.int .i64 x.C.Timer,.bool x.C.Waits,.bool x.C.User,.bool x.C.On,.bool x.C.Stopped,.own 3 1 (List.length x.Mem) (fl (eI .i64) x.Mem),.own 3 1 (List.length x.In) (fl (eI .i64) x.In),.own 3 1 (List.length x.Out) (fl (eI .i64) x.Out)]
theorem zN:∀x,aH (aCt x)=true:=λx=>by simp only[aCt,aH,AV.noRef,Bool.and_self,aB bV]
theorem aOj:∀x,aQ (aCt x)=true:=λx=>by simp only[aCt,aQ,AV.noBor,Bool.and_self,bC vX]
theorem aYa:iC aCt yP:=λx H r π j h=>(aI (dL (e:=3) rfl bX cG dB (h 0 _ rfl)) (aI (aD rfl) (aI (aD rfl) (aI (aD rfl) (aI (aD rfl) (aI (aD rfl) (aI (aD rfl) (aI (aD rfl) (aI (aD rfl) (aI (aD rfl) (aI (aD rfl) (aI (aD rfl) (aI (aD rfl) (aI (dL (e:=3) rfl bX cG dB (h 13 _ rfl)) (aI (dL (e:=3) rfl bX cG dB (h 14 _ rfl)) (aI (dL (e:=3) rfl bX cG dB (h 15 _ rfl)) uY))))))))))))))))
def wQ(x:Dl20Rd):List AV:=[.own 5 1 (List.length x.b) (fl (eI .u8) x.b),.int .i64 x.p]
theorem wI:∀x,aH (wQ x)=true:=λx=>by simp only[wQ,aH,AV.noRef,Bool.and_self,aB bV]
theorem aJi:∀x,aQ (wQ x)=true:=λx=>by simp only[wQ,aQ,AV.noBor,Bool.and_self,bC vX]
theorem aWt:iC wQ rK:=λx H r π j h=>(aI (dL (e:=5) rfl bX cG dB (h 0 _ rfl)) (aI (aD rfl) uY))
def xB(x:DCore):List AV:=[.own 3 1 (List.length x.Regs) (fl (eI .i64) x.Regs),.int .i64 x.Pc,.int .i64 x.Root,.int .i64 x.Vector,.int .i64 x.Saved,.bool x.SavedUser,.int .i64 x.Cause,.int .i64 x.Bad,.int .i64 x.Timer,.bool x.Waits,.bool x.User,.bool x.On,.bool x.Stopped]
theorem wR:∀x,aH (xB x)=true:=λx=>by simp only[xB,aH,AV.noRef,Bool.and_self,aB bV]
theorem aIc:∀x,aQ (xB x)=true:=λx=>by simp only[xB,aQ,AV.noBor,Bool.and_self,bC vX]
theorem aUl:iC xB tW:=λx H r π j h=>(aI (dL (e:=3) rfl bX cG dB (h 0 _ rfl)) (aI (aD rfl) (aI (aD rfl) (aI (aD rfl) (aI (aD rfl) (aI (aD rfl) (aI (aD rfl) (aI (aD rfl) (aI (aD rfl) (aI (aD rfl) (aI (aD rfl) (aI (aD rfl) (aI (aD rfl) uY)))))))))))))
def tV(x:DGuest):List AV:=[.bool x.Live,.own 3 1 (List.length x.C.Regs) (fl (eI .i64) x.C.Regs),.int .i64 x.C.Pc,.int .i64 x.C.Root,.int .i64 x.C.Vector,.int .i64 x.C.Saved,.bool x.C.SavedUser,.int .i64 x.C.Cause,.int .i64 x.C.Bad,.int .i64 x.C.Timer,.bool x.C.Waits,.bool x.C.User,.bool x.C.On,.bool x.C.Stopped,.own 153 3 (List.length x.Pages) (fl rN x.Pages),.own 3 1 (List.length x.In) (fl (eI .i64) x.In),.own 3 1 (List.length x.Out) (fl (eI .i64) x.Out)]
theorem sP:∀x,aH (tV x)=true:=λx=>by simp only[tV,aH,AV.noRef,Bool.and_self,aB bV,aB oP]
theorem aIb:∀x,aQ (tV x)=true:=λx=>by simp only[tV,aQ,AV.noBor,Bool.and_self,bC vX,bC aCw]
theorem aWu:iC tV rJ:=λx H r π j h=>(aI (aD rfl) (aI (dL (e:=3) rfl bX cG dB (h 1 _ rfl)) (aI (aD rfl) (aI (aD rfl) (aI (aD rfl) (aI (aD rfl) (aI (aD rfl) (aI (aD rfl) (aI (aD rfl) (aI (aD rfl) (aI (aD rfl) (aI (aD rfl) (aI (aD rfl) (aI (aD rfl) (aI (dL (e:=153) rfl aGt wY wS (h 14 _ rfl)) (aI (dL (e:=3) rfl bX cG dB (h 15 _ rfl)) (aI (dL (e:=3) rfl bX cG dB (h 16 _ rfl)) uY)))))))))))))))))
def bEg(x:DCore)(us:List AV):List AV:= .int .i64 x.Pc:: .int .i64 x.Root:: .int .i64 x.Vector:: .int .i64 x.Saved:: .bool x.SavedUser:: .int .i64 x.Cause:: .int .i64 x.Bad:: .int .i64 x.Timer:: .bool x.Waits:: .bool x.User:: .bool x.On:: .bool x.Stopped::us
def vL(us:List AV):List AV:= .int .i64 (0:Int):: .int .i64 (0:Int):: .int .i64 (0:Int):: .int .i64 (0:Int):: .bool false:: .int .i64 (0:Int):: .int .i64 (0:Int):: .int .i64 (0:Int):: .bool false:: .bool false:: .bool false:: .bool false::us
def bEj(x:DShade)(us:List AV):List AV:= .bool x.There:: .bool x.Write:: .bool x.User:: .int .i64 x.Page:: .int .i64 x.Frame:: .bool x.Ready::us
def bDs(us:List AV):List AV:= .bool false:: .bool false:: .bool false:: .int .i64 (0:Int):: .int .i64 (0:Int):: .bool false::us
def bDd(x:DEntry)(us:List AV):List AV:= .bool x.There:: .bool x.Write:: .bool x.User:: .int .i64 x.Page::us
def bBq(us:List AV):List AV:= .bool false:: .bool false:: .bool false:: .int .i64 (0:Int)::us
def bDl(x:DCore)(us:List AV):List AV:= .int .i64 x.Pc:: .int .i64 x.Root:: .int .i64 x.Vector:: .int .i64 x.Saved:: .bool x.SavedUser:: .int .i64 x.Cause:: .int .i64 x.Bad:: .int .i64 x.Timer:: .bool x.Waits:: .bool x.User:: .bool x.On:: .bool x.Stopped::us
def bCq(us:List AV):List AV:= .int .i64 (0:Int):: .int .i64 (0:Int):: .int .i64 (0:Int):: .int .i64 (0:Int):: .bool false:: .int .i64 (0:Int):: .int .i64 (0:Int):: .int .i64 (0:Int):: .bool false:: .bool false:: .bool false:: .bool false::us
theorem rz{ρ:Nat->Option Nat}{n:Nat}{vs us:List AV}(h:Rens ρ n vs us:=by repeat first|exact jB|refine bBj ?_|refine bCz ?_|refine aY aZi ?_|refine aY (hY ?_) ?_|refine aY (aAc dd rfl) ?_|refine aY vI ?_|refine aY (aKq dd rfl rfl) ?_|refine aY (bM (aN (aB iJ))) ?_|refine aY (bM (aN (aB vS))) ?_|refine aY (bM (aN (aB sJ))) ?_|refine aY (bM (aN (aB zV))) ?_|refine aY (bM (aN (aB zR))) ?_|refine aY (bM (aN (aB uL))) ?_|refine aY (bM (aN (aB zZ))) ?_|refine aY (bM (aN (aB aAd))) ?_|refine aY (bM (aN (aB vR))) ?_|refine aY (bM (aN (aB oP))) ?_|refine aY (bM (aN (aB wJ))) ?_|refine aY (bM (aN (aB jI))) ?_|refine aY (bM (aN (aB zM))) ?_|refine aY (bM (aN (aB vC))) ?_|refine aY (bM (aN (aB wI))) ?_|refine aY (bM (aN (aB wR))) ?_|refine aY (bM (aN (aB sP))) ?_|refine aY (bM (aN (aB aAe))) ?_|refine aY (bM (aN (aB nJ))) ?_|refine aY (bM (aN (aB zN))) ?_|refine aY (bM (aN (aB bV))) ?_|refine aY (bM (aN (aB aPo))) ?_):Rens ρ n vs us:=h
theorem nrr{p:Prop}(h:p:=by simp only[bDl,bDd,bEg,bEj,bCq,bBq,vL,bDs,AV.noRef,aH,AV.noBor,aQ,Bool.and_self,aB iJ,aB vS,aB sJ,aB zV,aB zR,aB uL,aB zZ,aB aAd,aB vR,aB oP,aB wJ,aB jI,aB zM,aB vC,aB wI,aB wR,aB sP,aB aAe,aB nJ,aB zN,aB bV,aB aPo,iJ,vS,sJ,zV,zR,uL,zZ,aAd,vR,oP,wJ,jI,zM,vC,wI,wR,sP,aAe,nJ,zN,bC aJp,bC aCw,bC aHu,bC aFl,bC aNk,bC aMr,bC aJi,bC aIc,bC aIb,bC aMl,bC aNw,bC aOj,bC vX,bC bDq,aJp,aCw,aHu,aFl,aNk,aMr,aJi,aIc,aIb,aMl,aNw,aOj]):p:=h
abbrev zc0:List AV:=[bb false,.nil,ii 0,ii 0,ii 0,ii 0,bb false,ii 0,ii 0,ii 0,bb false,bb false,bb false,bb false,.nil,.nil,.nil]
abbrev rI_3(x:List Int):Root:=⟨3,fl (eI .i64) x⟩
abbrev rO41(x:List DGuest):Root:=⟨41,fl oE x⟩
abbrev rB109(x:Dl20Rd):Root:=⟨109,rK x⟩
abbrev rC68(x:List DLine):Root:=⟨68,fl tA x⟩
abbrev rB26(x:DHost):Root:=⟨26,mK x⟩
end Go.Proofs.Ytkjabgefacfpfaa
