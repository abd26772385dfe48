/- The types of the plain functions. Made by program. -/
import Derived.Test.YtkjabgefacfpfaaZY
import Derived.Test.YtkjabgefacfpfaaProg
namespace Go.Proofs.Ytkjabgefacfpfaa
open Go.RowKit
set_option maxRecDepth 100000
set_option linter.all false
set_option maxHeartbeats 0
noncomputable def rg:=bFe Try.prog
abbrev LW(k:Nat)(L:LFun):Prop:=fB Try.prog k=some L
structure DCore where
 Regs:List Int
 Pc:Int
 Root:Int
 Vector:Int
 Saved:Int
 SavedUser:Bool
 Cause:Int
 Bad:Int
 Timer:Int
 Waits:Bool
 User:Bool
 On:Bool
 Stopped:Bool
deriving Inhabited
structure DSlot where
 Frame:Int
 Write:Bool
 Dirty:Bool
deriving Inhabited
structure DGuest where
 Live:Bool
 C:DCore
 Pages:List DSlot
 In:List Int
 Out:List Int
deriving Inhabited
structure DHost where
 Words:List Int
 Guests:List DGuest
deriving Inhabited
structure DShade where
 There:Bool
 Write:Bool
 User:Bool
 Page:Int
 Frame:Int
 Ready:Bool
deriving Inhabited
structure DLine where
 Tag:Int
 At:Int
 What:DShade
deriving Inhabited
structure DBare where
 C:DCore
 Mem:List Int
 In:List Int
 Out:List Int
deriving Inhabited
structure Dl20Rd where
 b:List Int
 p:Int
deriving Inhabited
structure DEntry where
 There:Bool
 Write:Bool
 User:Bool
 Page:Int
deriving Inhabited
structure DIns where
 Op:Int
 A:Int
 N:Int
deriving Inhabited
def yJ(x:DBare):List AV:=[bo (eI .i64) x.C.Regs,.int .i64 x.C.Pc,.int .i64 x.C.Root,.int .i64 x.C.Vector,.int .i64 x.C.Saved,.bool x.C.SavedUser,.int .i64 x.C.Cause,.int .i64 x.C.Bad,.int .i64 x.C.Timer,.bool x.C.Waits,.bool x.C.User,.bool x.C.On,.bool x.C.Stopped,bo (eI .i64) x.Mem,bo (eI .i64) x.In,bo (eI .i64) x.Out]
theorem aPs:∀x,noOwn (yJ x)=true:=λ_=>rfl
theorem aPf:∀x,aT (yJ x)=true:=λx=>by simp only[yJ,aT,AV.clean,Bool.and_self,cC dB]
theorem aAd:∀x,aF (yJ x)=true:=λx=>by simp only[yJ,aF,AV.noRef,Bool.and_self,aB bW]
def yZ(x:DCore):List AV:=[bo (eI .i64) x.Regs,.int .i64 x.Pc,.int .i64 x.Root,.int .i64 x.Vector,.int .i64 x.Saved,.bool x.SavedUser,.int .i64 x.Cause,.int .i64 x.Bad,.int .i64 x.Timer,.bool x.Waits,.bool x.User,.bool x.On,.bool x.Stopped]
theorem aOn:∀x,noOwn (yZ x)=true:=λ_=>rfl
theorem aOc:∀x,aT (yZ x)=true:=λx=>by simp only[yZ,aT,AV.clean,Bool.and_self,cC dB]
theorem aAv:∀x,aF (yZ x)=true:=λx=>by simp only[yZ,aF,AV.noRef,Bool.and_self,aB bW]
def kP(x:DSlot):List AV:=[.int .i64 x.Frame,.bool x.Write,.bool x.Dirty]
theorem wJ:∀x,(kP x).length=3:=λ_=>rfl
theorem aAf:∀x,noOwn (kP x)=true:=λ_=>rfl
theorem aAq:∀x,aT (kP x)=true:=λ_=>rfl
theorem iS:∀x,aF (kP x)=true:=λ_=>rfl
theorem aGq:∀x,aM (kP x)=true:=λ_=>rfl
def wG(x:DGuest):List AV:=[.bool x.Live,bo (eI .i64) x.C.Regs,.int .i64 x.C.Pc,.int .i64 x.C.Root,.int .i64 x.C.Vector,.int .i64 x.C.Saved,.bool x.C.SavedUser,.int .i64 x.C.Cause,.int .i64 x.C.Bad,.int .i64 x.C.Timer,.bool x.C.Waits,.bool x.C.User,.bool x.C.On,.bool x.C.Stopped,bo kP x.Pages,bo (eI .i64) x.In,bo (eI .i64) x.Out]
theorem aOm:∀x,noOwn (wG x)=true:=λ_=>rfl
theorem aGg:∀x,aT (wG x)=true:=λx=>by simp only[wG,aT,AV.clean,Bool.and_self,cC dB,cC aAq]
theorem uH:∀x,aF (wG x)=true:=λx=>by simp only[wG,aF,AV.noRef,Bool.and_self,aB bW,aB iS]
def aDk(x:DHost):List AV:=[bo (eI .i64) x.Words,bo wG x.Guests]
theorem aNt:∀x,noOwn (aDk x)=true:=λ_=>rfl
theorem aQc:∀x,aT (aDk x)=true:=λx=>by simp only[aDk,aT,AV.clean,Bool.and_self,cC dB,cC aGg]
theorem aAw:∀x,aF (aDk x)=true:=λx=>by simp only[aDk,aF,AV.noRef,Bool.and_self,aB bW,aB uH]
def qU(x:DSlot):List AV:=[.int .i64 x.Frame,.bool x.Write,.bool x.Dirty]
theorem aHt:∀x,(qU x).length=3:=λ_=>rfl
theorem xB:∀x,noOwn (qU x)=true:=λ_=>rfl
theorem wK:∀x,aT (qU x)=true:=λ_=>rfl
theorem nO:∀x,aF (qU x)=true:=λ_=>rfl
theorem aDv:∀x,aM (qU x)=true:=λ_=>rfl
def rA(x:DGuest):List AV:=[.bool x.Live,bo (eI .i64) x.C.Regs,.int .i64 x.C.Pc,.int .i64 x.C.Root,.int .i64 x.C.Vector,.int .i64 x.C.Saved,.bool x.C.SavedUser,.int .i64 x.C.Cause,.int .i64 x.C.Bad,.int .i64 x.C.Timer,.bool x.C.Waits,.bool x.C.User,.bool x.C.On,.bool x.C.Stopped,bo qU x.Pages,bo (eI .i64) x.In,bo (eI .i64) x.Out]
theorem aLv:∀x,noOwn (rA x)=true:=λ_=>rfl
theorem aCy:∀x,aT (rA x)=true:=λx=>by simp only[rA,aT,AV.clean,Bool.and_self,cC dB,cC wK]
theorem sN:∀x,aF (rA x)=true:=λx=>by simp only[rA,aF,AV.noRef,Bool.and_self,aB bW,aB nO]
def pY(x:DGuest):List AV:=[.bool x.Live,.own 3 1 (List.length x.C.Regs) (fl (eI .i64) x.C.Regs),.int .i64 x.C.Pc,.int .i64 x.C.Root,.int .i64 x.C.Vector,.int .i64 x.C.Saved,.bool x.C.SavedUser,.int .i64 x.C.Cause,.int .i64 x.C.Bad,.int .i64 x.C.Timer,.bool x.C.Waits,.bool x.C.User,.bool x.C.On,.bool x.C.Stopped,.own 43 3 (List.length x.Pages) (fl kP x.Pages),.own 3 1 (List.length x.In) (fl (eI .i64) x.In),.own 3 1 (List.length x.Out) (fl (eI .i64) x.Out)]
theorem nN:∀x,aF (pY x)=true:=λx=>by simp only[pY,aF,AV.noRef,Bool.and_self,aB bW,aB iS]
theorem aQb:∀x,aM (pY x)=true:=λx=>by simp only[pY,aM,AV.noBor,Bool.and_self,bD wR,bD aGq]
theorem aZj:gU pY wG:=λx H r π j h=>(aI (aD rfl) (aI (dQ (e:=3) rfl cB cN dB (h 1 _ rfl)) (aI (aD rfl) (aI (aD rfl) (aI (aD rfl) (aI (aD rfl) (aI (aD rfl) (aI (aD rfl) (aI (aD rfl) (aI (aD rfl) (aI (aD rfl) (aI (aD rfl) (aI (aD rfl) (aI (aD rfl) (aI (dQ (e:=43) rfl wJ aAf aAq (h 14 _ rfl)) (aI (dQ (e:=3) rfl cB cN dB (h 15 _ rfl)) (aI (dQ (e:=3) rfl cB cN dB (h 16 _ rfl)) vH)))))))))))))))))
def aGs(x:DShade):List AV:=[.bool x.There,.bool x.Write,.bool x.User,.int .i64 x.Page,.int .i64 x.Frame,.bool x.Ready]
theorem aNx:∀x,noOwn (aGs x)=true:=λ_=>rfl
theorem aOv:∀x,aT (aGs x)=true:=λ_=>rfl
theorem aAm:∀x,aF (aGs x)=true:=λ_=>rfl
theorem aOi:∀x,aM (aGs x)=true:=λ_=>rfl
def aAu(x:DEntry):List AV:=[.bool x.There,.bool x.Write,.bool x.User,.int .i64 x.Page]
theorem aMl:∀x,noOwn (aAu x)=true:=λ_=>rfl
theorem aMf:∀x,aT (aAu x)=true:=λ_=>rfl
theorem wS:∀x,aF (aAu x)=true:=λ_=>rfl
theorem aJt:∀x,aM (aAu x)=true:=λ_=>rfl
def aAx(x:DIns):List AV:=[.int .i64 x.Op,.int .i64 x.A,.int .i64 x.N]
theorem aLs:∀x,noOwn (aAx x)=true:=λ_=>rfl
theorem aJq:∀x,aT (aAx x)=true:=λ_=>rfl
theorem wY:∀x,aF (aAx x)=true:=λ_=>rfl
theorem aJm:∀x,aM (aAx x)=true:=λ_=>rfl
def aGw(x:DLine):List AV:=[.int .i64 x.Tag,.int .i64 x.At,.bool x.What.There,.bool x.What.Write,.bool x.What.User,.int .i64 x.What.Page,.int .i64 x.What.Frame,.bool x.What.Ready]
theorem aNl:∀x,noOwn (aGw x)=true:=λ_=>rfl
theorem aOk:∀x,aT (aGw x)=true:=λ_=>rfl
theorem aAy:∀x,aF (aGw x)=true:=λ_=>rfl
theorem aNr:∀x,aM (aGw x)=true:=λ_=>rfl
def tJ(x:Dl20Rd):List AV:=[bo (eI .u8) x.b,.int .i64 x.p]
theorem aLk:∀x,noOwn (tJ x)=true:=λ_=>rfl
theorem aKk:∀x,aT (tJ x)=true:=λx=>by simp only[tJ,aT,AV.clean,Bool.and_self,cC dB]
theorem wF:∀x,aF (tJ x)=true:=λx=>by simp only[tJ,aF,AV.noRef,Bool.and_self,aB bW]
def aCw(x:DHost):List AV:=[bo (eI .i64) x.Words,bo rA x.Guests]
theorem aOd:∀x,noOwn (aCw x)=true:=λ_=>rfl
theorem aPg:∀x,aT (aCw x)=true:=λx=>by simp only[aCw,aT,AV.clean,Bool.and_self,cC dB,cC aCy]
theorem aAr:∀x,aF (aCw x)=true:=λx=>by simp only[aCw,aF,AV.noRef,Bool.and_self,aB bW,aB sN]
def sT(x:DCore):List AV:=[bo (eI .i64) x.Regs,.int .i64 x.Pc,.int .i64 x.Root,.int .i64 x.Vector,.int .i64 x.Saved,.bool x.SavedUser,.int .i64 x.Cause,.int .i64 x.Bad,.int .i64 x.Timer,.bool x.Waits,.bool x.User,.bool x.On,.bool x.Stopped]
theorem aKo:∀x,noOwn (sT x)=true:=λ_=>rfl
theorem aMh:∀x,aT (sT x)=true:=λx=>by simp only[sT,aT,AV.clean,Bool.and_self,cC dB]
theorem xK:∀x,aF (sT x)=true:=λx=>by simp only[sT,aF,AV.noRef,Bool.and_self,aB bW]
def aCf(x:DCore):List AV:=[.own 3 1 (List.length x.Regs) (fl (eI .i64) x.Regs),.int .i64 x.Pc,.int .i64 x.Root,.int .i64 x.Vector,.int .i64 x.Saved,.bool x.SavedUser,.int .i64 x.Cause,.int .i64 x.Bad,.int .i64 x.Timer,.bool x.Waits,.bool x.User,.bool x.On,.bool x.Stopped]
theorem aAo:∀x,aF (aCf x)=true:=λx=>by simp only[aCf,aF,AV.noRef,Bool.and_self,aB bW]
theorem aOz:∀x,aM (aCf x)=true:=λx=>by simp only[aCf,aM,AV.noBor,Bool.and_self,bD wR]
theorem aYw:gU aCf yZ:=λx H r π j h=>(aI (dQ (e:=3) rfl cB cN dB (h 0 _ rfl)) (aI (aD rfl) (aI (aD rfl) (aI (aD rfl) (aI (aD rfl) (aI (aD rfl) (aI (aD rfl) (aI (aD rfl) (aI (aD rfl) (aI (aD rfl) (aI (aD rfl) (aI (aD rfl) (aI (aD rfl) vH)))))))))))))
def aCx(x:DBare):List AV:=[.own 3 1 (List.length x.C.Regs) (fl (eI .i64) x.C.Regs),.int .i64 x.C.Pc,.int .i64 x.C.Root,.int .i64 x.C.Vector,.int .i64 x.C.Saved,.bool x.C.SavedUser,.int .i64 x.C.Cause,.int .i64 x.C.Bad,.int .i64 x.C.Timer,.bool x.C.Waits,.bool x.C.User,.bool x.C.On,.bool x.C.Stopped,.own 3 1 (List.length x.Mem) (fl (eI .i64) x.Mem),.own 3 1 (List.length x.In) (fl (eI .i64) x.In),.own 3 1 (List.length x.Out) (fl (eI .i64) x.Out)]
theorem aAi:∀x,aF (aCx x)=true:=λx=>by simp only[aCx,aF,AV.noRef,Bool.and_self,aB bW]
theorem aPd:∀x,aM (aCx x)=true:=λx=>by simp only[aCx,aM,AV.noBor,Bool.and_self,bD wR]
theorem aZg:gU aCx yJ:=λx H r π j h=>(aI (dQ (e:=3) rfl cB cN dB (h 0 _ rfl)) (aI (aD rfl) (aI (aD rfl) (aI (aD rfl) (aI (aD rfl) (aI (aD rfl) (aI (aD rfl) (aI (aD rfl) (aI (aD rfl) (aI (aD rfl) (aI (aD rfl) (aI (aD rfl) (aI (aD rfl) (aI (dQ (e:=3) rfl cB cN dB (h 13 _ rfl)) (aI (dQ (e:=3) rfl cB cN dB (h 14 _ rfl)) (aI (dQ (e:=3) rfl cB cN dB (h 15 _ rfl)) vH))))))))))))))))
def vR(x:Dl20Rd):List AV:=[.own 5 1 (List.length x.b) (fl (eI .u8) x.b),.int .i64 x.p]
theorem vW:∀x,aF (vR x)=true:=λx=>by simp only[vR,aF,AV.noRef,Bool.and_self,aB bW]
theorem aMn:∀x,aM (vR x)=true:=λx=>by simp only[vR,aM,AV.noBor,Bool.and_self,bD wR]
theorem aWk:gU vR tJ:=λx H r π j h=>(aI (dQ (e:=5) rfl cB cN dB (h 0 _ rfl)) (aI (aD rfl) vH))
def wZ(x:DCore):List AV:=[.own 3 1 (List.length x.Regs) (fl (eI .i64) x.Regs),.int .i64 x.Pc,.int .i64 x.Root,.int .i64 x.Vector,.int .i64 x.Saved,.bool x.SavedUser,.int .i64 x.Cause,.int .i64 x.Bad,.int .i64 x.Timer,.bool x.Waits,.bool x.User,.bool x.On,.bool x.Stopped]
theorem wP:∀x,aF (wZ x)=true:=λx=>by simp only[wZ,aF,AV.noRef,Bool.and_self,aB bW]
theorem aMg:∀x,aM (wZ x)=true:=λx=>by simp only[wZ,aM,AV.noBor,Bool.and_self,bD wR]
theorem aVm:gU wZ sT:=λx H r π j h=>(aI (dQ (e:=3) rfl cB cN dB (h 0 _ rfl)) (aI (aD rfl) (aI (aD rfl) (aI (aD rfl) (aI (aD rfl) (aI (aD rfl) (aI (aD rfl) (aI (aD rfl) (aI (aD rfl) (aI (aD rfl) (aI (aD rfl) (aI (aD rfl) (aI (aD rfl) vH)))))))))))))
def sR(x:DGuest):List AV:=[.bool x.Live,.own 3 1 (List.length x.C.Regs) (fl (eI .i64) x.C.Regs),.int .i64 x.C.Pc,.int .i64 x.C.Root,.int .i64 x.C.Vector,.int .i64 x.C.Saved,.bool x.C.SavedUser,.int .i64 x.C.Cause,.int .i64 x.C.Bad,.int .i64 x.C.Timer,.bool x.C.Waits,.bool x.C.User,.bool x.C.On,.bool x.C.Stopped,.own 153 3 (List.length x.Pages) (fl qU x.Pages),.own 3 1 (List.length x.In) (fl (eI .i64) x.In),.own 3 1 (List.length x.Out) (fl (eI .i64) x.Out)]
theorem sM:∀x,aF (sR x)=true:=λx=>by simp only[sR,aF,AV.noRef,Bool.and_self,aB bW,aB nO]
theorem aLa:∀x,aM (sR x)=true:=λx=>by simp only[sR,aM,AV.noBor,Bool.and_self,bD wR,bD aDv]
theorem aWa:gU sR rA:=λx H r π j h=>(aI (aD rfl) (aI (dQ (e:=3) rfl cB cN dB (h 1 _ rfl)) (aI (aD rfl) (aI (aD rfl) (aI (aD rfl) (aI (aD rfl) (aI (aD rfl) (aI (aD rfl) (aI (aD rfl) (aI (aD rfl) (aI (aD rfl) (aI (aD rfl) (aI (aD rfl) (aI (aD rfl) (aI (dQ (e:=153) rfl aHt xB wK (h 14 _ rfl)) (aI (dQ (e:=3) rfl cB cN dB (h 15 _ rfl)) (aI (dQ (e:=3) rfl cB cN dB (h 16 _ rfl)) vH)))))))))))))))))
def bFl(x:DCore)(us:List AV):List AV:= .int .i64 x.Pc:: .int .i64 x.Root:: .int .i64 x.Vector:: .int .i64 x.Saved:: .bool x.SavedUser:: .int .i64 x.Cause:: .int .i64 x.Bad:: .int .i64 x.Timer:: .bool x.Waits:: .bool x.User:: .bool x.On:: .bool x.Stopped::us
def wW(us:List AV):List AV:= .int .i64 (0:Int):: .int .i64 (0:Int):: .int .i64 (0:Int):: .int .i64 (0:Int):: .bool false:: .int .i64 (0:Int):: .int .i64 (0:Int):: .int .i64 (0:Int):: .bool false:: .bool false:: .bool false:: .bool false::us
def bFy(x:DShade)(us:List AV):List AV:= .bool x.There:: .bool x.Write:: .bool x.User:: .int .i64 x.Page:: .int .i64 x.Frame:: .bool x.Ready::us
def bEu(us:List AV):List AV:= .bool false:: .bool false:: .bool false:: .int .i64 (0:Int):: .int .i64 (0:Int):: .bool false::us
def bEj(x:DEntry)(us:List AV):List AV:= .bool x.There:: .bool x.Write:: .bool x.User:: .int .i64 x.Page::us
def bDk(us:List AV):List AV:= .bool false:: .bool false:: .bool false:: .int .i64 (0:Int)::us
def bEh(x:DCore)(us:List AV):List AV:= .int .i64 x.Pc:: .int .i64 x.Root:: .int .i64 x.Vector:: .int .i64 x.Saved:: .bool x.SavedUser:: .int .i64 x.Cause:: .int .i64 x.Bad:: .int .i64 x.Timer:: .bool x.Waits:: .bool x.User:: .bool x.On:: .bool x.Stopped::us
def bBd(us:List AV):List AV:= .int .i64 (0:Int):: .int .i64 (0:Int):: .int .i64 (0:Int):: .int .i64 (0:Int):: .bool false:: .int .i64 (0:Int):: .int .i64 (0:Int):: .int .i64 (0:Int):: .bool false:: .bool false:: .bool false:: .bool false::us
theorem rz{ρ:Nat->Option Nat}{n:Nat}{vs us:List AV}(h:Rens ρ n vs us:=by repeat first|exact eG|refine bAv ?_|refine bCy ?_|refine aU bAb ?_|refine aU (iR ?_) ?_|refine aU (aAn dd rfl) ?_|refine aU aAa ?_|refine aU (aLx dd rfl rfl) ?_|refine aU (bM (aQ (aB wF))) ?_|refine aU (bM (aQ (aB xK))) ?_|refine aU (bM (aQ (aB sN))) ?_|refine aU (bM (aQ (aB aAw))) ?_|refine aU (bM (aQ (aB aAv))) ?_|refine aU (bM (aQ (aB uH))) ?_|refine aU (bM (aQ (aB aAr))) ?_|refine aU (bM (aQ (aB aAd))) ?_|refine aU (bM (aQ (aB wS))) ?_|refine aU (bM (aQ (aB nO))) ?_|refine aU (bM (aQ (aB wY))) ?_|refine aU (bM (aQ (aB iS))) ?_|refine aU (bM (aQ (aB aAm))) ?_|refine aU (bM (aQ (aB aAy))) ?_|refine aU (bM (aQ (aB vW))) ?_|refine aU (bM (aQ (aB wP))) ?_|refine aU (bM (aQ (aB sM))) ?_|refine aU (bM (aQ (aB aAo))) ?_|refine aU (bM (aQ (aB nN))) ?_|refine aU (bM (aQ (aB aAi))) ?_|refine aU (bM (aQ (aB bW))) ?_|refine aU (bM (aQ (aB aQm))) ?_):Rens ρ n vs us:=h
theorem nrr{p:Prop}(h:p:=by simp only[bEh,bEj,bFl,bFy,bBd,bDk,wW,bEu,AV.noRef,aF,AV.noBor,aM,Bool.and_self,aB wF,aB xK,aB sN,aB aAw,aB aAv,aB uH,aB aAr,aB aAd,aB wS,aB nO,aB wY,aB iS,aB aAm,aB aAy,aB vW,aB wP,aB sM,aB aAo,aB nN,aB aAi,aB bW,aB aQm,wF,xK,sN,aAw,aAv,uH,aAr,aAd,wS,nO,wY,iS,aAm,aAy,vW,wP,sM,aAo,nN,aAi,bD aJt,bD aDv,bD aJm,bD aGq,bD aOi,bD aNr,bD aMn,bD aMg,bD aLa,bD aOz,bD aQb,bD aPd,bD wR,bD bEr,aJt,aDv,aJm,aGq,aOi,aNr,aMn,aMg,aLa,aOz,aQb,aPd]):p:=h
abbrev zc0:List AV:=[bb false,.nil,ii 0,ii 0,ii 0,ii 0,bb false,ii 0,ii 0,ii 0,bb false,bb false,bb false,bb false,.nil,.nil,.nil]
abbrev rI_3(x:List Int):Root:=⟨3,fl (eI .i64) x⟩
abbrev rO41(x:List DGuest):Root:=⟨41,fl pY x⟩
end Go.Proofs.Ytkjabgefacfpfaa
