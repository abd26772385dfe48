/- The types of the plain functions. Made by program. -/
import Derived.Test.YtkjabgefacfpfaaGreatZY
import Derived.Test.YtkjabgefacfpfaaGreatProg
namespace Go.Proofs.YtkjabgefacfpfaaGreat
open Go.RowKit
set_option maxRecDepth 100000
set_option linter.all false
set_option maxHeartbeats 0
noncomputable def rg:=bTw Tryz.prog
abbrev LW(k:Nat)(L:LFun):Prop:=kC Tryz.prog k=some L
structure DCore where
 Regs:List Int
 Pc:Int
 Root:Int
 Vector:Int
 Saved:Int
 SavedUser:Bool
 Cause:Int
 Bad:Int
 Timer:Int
 Waits:Bool
 User:Bool
 On:Bool
 Stopped:Bool
deriving Inhabited
structure DSlot where
 Frame:Int
 Write:Bool
 Dirty:Bool
deriving Inhabited
structure DGuest where
 Live:Bool
 C:DCore
 Pages:List DSlot
 In:List Int
 Out:List Int
deriving Inhabited
structure DHost where
 Words:List Int
 Guests:List DGuest
deriving Inhabited
structure DBare where
 C:DCore
 Mem:List Int
 In:List Int
 Out:List Int
deriving Inhabited
structure DIns where
 Op:Int
 A:Int
 N:Int
deriving Inhabited
structure DShade where
 There:Bool
 Write:Bool
 User:Bool
 Page:Int
 Frame:Int
 Ready:Bool
deriving Inhabited
structure DLine where
 Tag:Int
 At:Int
 What:DShade
deriving Inhabited
structure Dl20Rd where
 b:List Int
 p:Int
deriving Inhabited
structure DExit where
 Why:Int
 Page:Int
 What:DIns
deriving Inhabited
structure DEntry where
 There:Bool
 Write:Bool
 User:Bool
 Page:Int
deriving Inhabited
def aGo(x:DBare):List AV:=[bo (eI .i64) x.C.Regs,.int .i64 x.C.Pc,.int .i64 x.C.Root,.int .i64 x.C.Vector,.int .i64 x.C.Saved,.bool x.C.SavedUser,.int .i64 x.C.Cause,.int .i64 x.C.Bad,.int .i64 x.C.Timer,.bool x.C.Waits,.bool x.C.User,.bool x.C.On,.bool x.C.Stopped,bo (eI .i64) x.Mem,bo (eI .i64) x.In,bo (eI .i64) x.Out]
theorem aZy:∀x,noOwn (aGo x)=true:=λ_=>rfl
theorem aQl:∀x,bE (aGo x)=true:=λx=>by simp only[aGo,bE,AV.clean,Bool.and_self,aX bI]
theorem aIf:∀x,aL (aGo x)=true:=λx=>by simp only[aGo,aL,AV.noRef,Bool.and_self,aE bK]
def yL(x:DCore):List AV:=[bo (eI .i64) x.Regs,.int .i64 x.Pc,.int .i64 x.Root,.int .i64 x.Vector,.int .i64 x.Saved,.bool x.SavedUser,.int .i64 x.Cause,.int .i64 x.Bad,.int .i64 x.Timer,.bool x.Waits,.bool x.User,.bool x.On,.bool x.Stopped]
theorem aYs:∀x,noOwn (yL x)=true:=λ_=>rfl
theorem aPz:∀x,bE (yL x)=true:=λx=>by simp only[yL,bE,AV.clean,Bool.and_self,aX bI]
theorem aIn:∀x,aL (yL x)=true:=λx=>by simp only[yL,aL,AV.noRef,Bool.and_self,aE bK]
def hG(x:DSlot):List AV:=[.int .i64 x.Frame,.bool x.Write,.bool x.Dirty]
theorem nW:∀x,(hG x).length=3:=λ_=>rfl
theorem aJc:∀x,noOwn (hG x)=true:=λ_=>rfl
theorem aCq:∀x,bE (hG x)=true:=λ_=>rfl
theorem lM:∀x,aL (hG x)=true:=λ_=>rfl
theorem aPe:∀x,aW (hG x)=true:=λ_=>rfl
def cB(x:DGuest):List AV:=[.bool x.Live,bo (eI .i64) x.C.Regs,.int .i64 x.C.Pc,.int .i64 x.C.Root,.int .i64 x.C.Vector,.int .i64 x.C.Saved,.bool x.C.SavedUser,.int .i64 x.C.Cause,.int .i64 x.C.Bad,.int .i64 x.C.Timer,.bool x.C.Waits,.bool x.C.User,.bool x.C.On,.bool x.C.Stopped,bo hG x.Pages,bo (eI .i64) x.In,bo (eI .i64) x.Out]
theorem uW:∀x,(cB x).length=17:=λ_=>rfl
theorem bBh:∀x,noOwn (cB x)=true:=λ_=>rfl
theorem aIy:∀x,bE (cB x)=true:=λx=>by simp only[cB,bE,AV.clean,Bool.and_self,aX bI,aX aCq]
theorem aCf:∀x,aL (cB x)=true:=λx=>by simp only[cB,aL,AV.noRef,Bool.and_self,aE bK,aE lM]
def cP(x:DHost):List AV:=[bo (eI .i64) x.Words,bo cB x.Guests]
theorem bAk:∀x,noOwn (cP x)=true:=λ_=>rfl
theorem gD:∀x,bE (cP x)=true:=λx=>by simp only[cP,bE,AV.clean,Bool.and_self,aX bI,aX aIy]
theorem aIu:∀x,aL (cP x)=true:=λx=>by simp only[cP,aL,AV.noRef,Bool.and_self,aE bK,aE aCf]
def sQ(x:DSlot):List AV:=[.int .i64 x.Frame,.bool x.Write,.bool x.Dirty]
theorem aRw:∀x,(sQ x).length=3:=λ_=>rfl
theorem aEc:∀x,noOwn (sQ x)=true:=λ_=>rfl
theorem yK:∀x,bE (sQ x)=true:=λ_=>rfl
theorem vA:∀x,aL (sQ x)=true:=λ_=>rfl
theorem aLk:∀x,aW (sQ x)=true:=λ_=>rfl
def cX(x:DGuest):List AV:=[.bool x.Live,bo (eI .i64) x.C.Regs,.int .i64 x.C.Pc,.int .i64 x.C.Root,.int .i64 x.C.Vector,.int .i64 x.C.Saved,.bool x.C.SavedUser,.int .i64 x.C.Cause,.int .i64 x.C.Bad,.int .i64 x.C.Timer,.bool x.C.Waits,.bool x.C.User,.bool x.C.On,.bool x.C.Stopped,bo sQ x.Pages,bo (eI .i64) x.In,bo (eI .i64) x.Out]
theorem aVr:∀x,noOwn (cX x)=true:=λ_=>rfl
theorem uV:∀x,bE (cX x)=true:=λx=>by simp only[cX,bE,AV.clean,Bool.and_self,aX bI,aX yK]
theorem zQ:∀x,aL (cX x)=true:=λx=>by simp only[cX,aL,AV.noRef,Bool.and_self,aE bK,aE vA]
def aQ(x:DGuest):List AV:=[.bool x.Live,.own 3 1 (List.length x.C.Regs) (fl (eI .i64) x.C.Regs),.int .i64 x.C.Pc,.int .i64 x.C.Root,.int .i64 x.C.Vector,.int .i64 x.C.Saved,.bool x.C.SavedUser,.int .i64 x.C.Cause,.int .i64 x.C.Bad,.int .i64 x.C.Timer,.bool x.C.Waits,.bool x.C.User,.bool x.C.On,.bool x.C.Stopped,.own 53 3 (List.length x.Pages) (fl hG x.Pages),.own 3 1 (List.length x.In) (fl (eI .i64) x.In),.own 3 1 (List.length x.Out) (fl (eI .i64) x.Out)]
theorem aG:∀x,(aQ x).length=17:=λ_=>rfl
theorem cZ:∀x,aL (aQ x)=true:=λx=>by simp only[aQ,aL,AV.noRef,Bool.and_self,aE bK,aE lM]
theorem aZb:∀x,aW (aQ x)=true:=λx=>by simp only[aQ,aW,AV.noBor,Bool.and_self,bY aEu,bY aPe]
theorem dB:nB aQ cB:=λx H r π j h=>(aB (aD rfl) (aB (bC (e:=3) rfl aP bJ bI (h 1 _ rfl)) (aB (aD rfl) (aB (aD rfl) (aB (aD rfl) (aB (aD rfl) (aB (aD rfl) (aB (aD rfl) (aB (aD rfl) (aB (aD rfl) (aB (aD rfl) (aB (aD rfl) (aB (aD rfl) (aB (aD rfl) (aB (bC (e:=53) rfl nW aJc aCq (h 14 _ rfl)) (aB (bC (e:=3) rfl aP bJ bI (h 15 _ rfl)) (aB (bC (e:=3) rfl aP bJ bI (h 16 _ rfl)) cS)))))))))))))))))
def pB(x:DShade):List AV:=[.bool x.There,.bool x.Write,.bool x.User,.int .i64 x.Page,.int .i64 x.Frame,.bool x.Ready]
theorem aFt:∀x,(pB x).length=6:=λ_=>rfl
theorem aEk:∀x,noOwn (pB x)=true:=λ_=>rfl
theorem zR:∀x,bE (pB x)=true:=λ_=>rfl
theorem pP:∀x,aL (pB x)=true:=λ_=>rfl
theorem aTv:∀x,aW (pB x)=true:=λ_=>rfl
def aIh(x:DEntry):List AV:=[.bool x.There,.bool x.Write,.bool x.User,.int .i64 x.Page]
theorem aUo:∀x,noOwn (aIh x)=true:=λ_=>rfl
theorem aKy:∀x,bE (aIh x)=true:=λ_=>rfl
theorem aDm:∀x,aL (aIh x)=true:=λ_=>rfl
theorem aXq:∀x,aW (aIh x)=true:=λ_=>rfl
def fD(x:DIns):List AV:=[.int .i64 x.Op,.int .i64 x.A,.int .i64 x.N]
theorem bBj:∀x,noOwn (fD x)=true:=λ_=>rfl
theorem aPy:∀x,bE (fD x)=true:=λ_=>rfl
theorem tU:∀x,aL (fD x)=true:=λ_=>rfl
theorem aYu:∀x,aW (fD x)=true:=λ_=>rfl
def aIt(x:DExit):List AV:=[.int .i64 x.Why,.int .i64 x.Page,.int .i64 x.What.Op,.int .i64 x.What.A,.int .i64 x.What.N]
theorem aUt:∀x,noOwn (aIt x)=true:=λ_=>rfl
theorem aLb:∀x,bE (aIt x)=true:=λ_=>rfl
theorem aDz:∀x,aL (aIt x)=true:=λ_=>rfl
theorem aUa:∀x,aW (aIt x)=true:=λ_=>rfl
def aIs(x:DLine):List AV:=[.int .i64 x.Tag,.int .i64 x.At,.bool x.What.There,.bool x.What.Write,.bool x.What.User,.int .i64 x.What.Page,.int .i64 x.What.Frame,.bool x.What.Ready]
theorem aXt:∀x,noOwn (aIs x)=true:=λ_=>rfl
theorem aKr:∀x,bE (aIs x)=true:=λ_=>rfl
theorem aDi:∀x,aL (aIs x)=true:=λ_=>rfl
theorem aXs:∀x,aW (aIs x)=true:=λ_=>rfl
def aAl(x:Dl20Rd):List AV:=[bo (eI .u8) x.b,.int .i64 x.p]
theorem aWf:∀x,noOwn (aAl x)=true:=λ_=>rfl
theorem aLo:∀x,bE (aAl x)=true:=λx=>by simp only[aAl,bE,AV.clean,Bool.and_self,aX bI]
theorem aCv:∀x,aL (aAl x)=true:=λx=>by simp only[aAl,aL,AV.noRef,Bool.and_self,aE bK]
def aKt(x:DHost):List AV:=[bo (eI .i64) x.Words,bo cX x.Guests]
theorem aZg:∀x,noOwn (aKt x)=true:=λ_=>rfl
theorem aQg:∀x,bE (aKt x)=true:=λx=>by simp only[aKt,bE,AV.clean,Bool.and_self,aX bI,aX uV]
theorem aIj:∀x,aL (aKt x)=true:=λx=>by simp only[aKt,aL,AV.noRef,Bool.and_self,aE bK,aE zQ]
def aAt(x:DCore):List AV:=[bo (eI .i64) x.Regs,.int .i64 x.Pc,.int .i64 x.Root,.int .i64 x.Vector,.int .i64 x.Saved,.bool x.SavedUser,.int .i64 x.Cause,.int .i64 x.Bad,.int .i64 x.Timer,.bool x.Waits,.bool x.User,.bool x.On,.bool x.Stopped]
theorem aTc:∀x,noOwn (aAt x)=true:=λ_=>rfl
theorem aKw:∀x,bE (aAt x)=true:=λx=>by simp only[aAt,bE,AV.clean,Bool.and_self,aX bI]
theorem aDk:∀x,aL (aAt x)=true:=λx=>by simp only[aAt,aL,AV.noRef,Bool.and_self,aE bK]
def aLc(x:DCore):List AV:=[.own 3 1 (List.length x.Regs) (fl (eI .i64) x.Regs),.int .i64 x.Pc,.int .i64 x.Root,.int .i64 x.Vector,.int .i64 x.Saved,.bool x.SavedUser,.int .i64 x.Cause,.int .i64 x.Bad,.int .i64 x.Timer,.bool x.Waits,.bool x.User,.bool x.On,.bool x.Stopped]
theorem aIi:∀x,aL (aLc x)=true:=λx=>by simp only[aLc,aL,AV.noRef,Bool.and_self,aE bK]
theorem bAw:∀x,aW (aLc x)=true:=λx=>by simp only[aLc,aW,AV.noBor,Bool.and_self,bY aEu]
theorem bLa:nB aLc yL:=λx H r π j h=>(aB (bC (e:=3) rfl aP bJ bI (h 0 _ rfl)) (aB (aD rfl) (aB (aD rfl) (aB (aD rfl) (aB (aD rfl) (aB (aD rfl) (aB (aD rfl) (aB (aD rfl) (aB (aD rfl) (aB (aD rfl) (aB (aD rfl) (aB (aD rfl) (aB (aD rfl) cS)))))))))))))
def aMh(x:DBare):List AV:=[.own 3 1 (List.length x.C.Regs) (fl (eI .i64) x.C.Regs),.int .i64 x.C.Pc,.int .i64 x.C.Root,.int .i64 x.C.Vector,.int .i64 x.C.Saved,.bool x.C.SavedUser,.int .i64 x.C.Cause,.int .i64 x.C.Bad,.int .i64 x.C.Timer,.bool x.C.Waits,.bool x.C.User,.bool x.C.On,.bool x.C.Stopped,.own 3 1 (List.length x.Mem) (fl (eI .i64) x.Mem),.own 3 1 (List.length x.In) (fl (eI .i64) x.In),.own 3 1 (List.length x.Out) (fl (eI .i64) x.Out)]
theorem aJb:∀x,aL (aMh x)=true:=λx=>by simp only[aMh,aL,AV.noRef,Bool.and_self,aE bK]
theorem bAf:∀x,aW (aMh x)=true:=λx=>by simp only[aMh,aW,AV.noBor,Bool.and_self,bY aEu]
theorem bMc:nB aMh aGo:=λx H r π j h=>(aB (bC (e:=3) rfl aP bJ bI (h 0 _ rfl)) (aB (aD rfl) (aB (aD rfl) (aB (aD rfl) (aB (aD rfl) (aB (aD rfl) (aB (aD rfl) (aB (aD rfl) (aB (aD rfl) (aB (aD rfl) (aB (aD rfl) (aB (aD rfl) (aB (aD rfl) (aB (bC (e:=3) rfl aP bJ bI (h 13 _ rfl)) (aB (bC (e:=3) rfl aP bJ bI (h 14 _ rfl)) (aB (bC (e:=3) rfl aP bJ bI (h 15 _ rfl)) cS))))))))))))))))
def aCw(x:Dl20Rd):List AV:=[.own 5 1 (List.length x.b) (fl (eI .u8) x.b),.int .i64 x.p]
theorem aEo:∀x,aL (aCw x)=true:=λx=>by simp only[aCw,aL,AV.noRef,Bool.and_self,aE bK]
theorem aXu:∀x,aW (aCw x)=true:=λx=>by simp only[aCw,aW,AV.noBor,Bool.and_self,bY aEu]
theorem bJz:nB aCw aAl:=λx H r π j h=>(aB (bC (e:=5) rfl aP bJ bI (h 0 _ rfl)) (aB (aD rfl) cS))
def aEb(x:DCore):List AV:=[.own 3 1 (List.length x.Regs) (fl (eI .i64) x.Regs),.int .i64 x.Pc,.int .i64 x.Root,.int .i64 x.Vector,.int .i64 x.Saved,.bool x.SavedUser,.int .i64 x.Cause,.int .i64 x.Bad,.int .i64 x.Timer,.bool x.Waits,.bool x.User,.bool x.On,.bool x.Stopped]
theorem aDg:∀x,aL (aEb x)=true:=λx=>by simp only[aEb,aL,AV.noRef,Bool.and_self,aE bK]
theorem aUh:∀x,aW (aEb x)=true:=λx=>by simp only[aEb,aW,AV.noBor,Bool.and_self,bY aEu]
theorem bIi:nB aEb aAt:=λx H r π j h=>(aB (bC (e:=3) rfl aP bJ bI (h 0 _ rfl)) (aB (aD rfl) (aB (aD rfl) (aB (aD rfl) (aB (aD rfl) (aB (aD rfl) (aB (aD rfl) (aB (aD rfl) (aB (aD rfl) (aB (aD rfl) (aB (aD rfl) (aB (aD rfl) (aB (aD rfl) cS)))))))))))))
def aAe(x:DGuest):List AV:=[.bool x.Live,.own 3 1 (List.length x.C.Regs) (fl (eI .i64) x.C.Regs),.int .i64 x.C.Pc,.int .i64 x.C.Root,.int .i64 x.C.Vector,.int .i64 x.C.Saved,.bool x.C.SavedUser,.int .i64 x.C.Cause,.int .i64 x.C.Bad,.int .i64 x.C.Timer,.bool x.C.Waits,.bool x.C.User,.bool x.C.On,.bool x.C.Stopped,.own 184 3 (List.length x.Pages) (fl sQ x.Pages),.own 3 1 (List.length x.In) (fl (eI .i64) x.In),.own 3 1 (List.length x.Out) (fl (eI .i64) x.Out)]
theorem zG:∀x,aL (aAe x)=true:=λx=>by simp only[aAe,aL,AV.noRef,Bool.and_self,aE bK,aE vA]
theorem aVv:∀x,aW (aAe x)=true:=λx=>by simp only[aAe,aW,AV.noBor,Bool.and_self,bY aEu,bY aLk]
theorem bHw:nB aAe cX:=λx H r π j h=>(aB (aD rfl) (aB (bC (e:=3) rfl aP bJ bI (h 1 _ rfl)) (aB (aD rfl) (aB (aD rfl) (aB (aD rfl) (aB (aD rfl) (aB (aD rfl) (aB (aD rfl) (aB (aD rfl) (aB (aD rfl) (aB (aD rfl) (aB (aD rfl) (aB (aD rfl) (aB (aD rfl) (aB (bC (e:=184) rfl aRw aEc yK (h 14 _ rfl)) (aB (bC (e:=3) rfl aP bJ bI (h 15 _ rfl)) (aB (bC (e:=3) rfl aP bJ bI (h 16 _ rfl)) cS)))))))))))))))))
def cW(x:DCore)(us:List AV):List AV:= .int .i64 x.Pc:: .int .i64 x.Root:: .int .i64 x.Vector:: .int .i64 x.Saved:: .bool x.SavedUser:: .int .i64 x.Cause:: .int .i64 x.Bad:: .int .i64 x.Timer:: .bool x.Waits:: .bool x.User:: .bool x.On:: .bool x.Stopped::us
def bRs(us:List AV):List AV:= .int .i64 (0:Int):: .int .i64 (0:Int):: .int .i64 (0:Int):: .int .i64 (0:Int):: .bool false:: .int .i64 (0:Int):: .int .i64 (0:Int):: .int .i64 (0:Int):: .bool false:: .bool false:: .bool false:: .bool false::us
def bRl(x:DShade)(us:List AV):List AV:= .bool x.There:: .bool x.Write:: .bool x.User:: .int .i64 x.Page:: .int .i64 x.Frame:: .bool x.Ready::us
def bOo(us:List AV):List AV:= .bool false:: .bool false:: .bool false:: .int .i64 (0:Int):: .int .i64 (0:Int):: .bool false::us
def bRj(x:DEntry)(us:List AV):List AV:= .bool x.There:: .bool x.Write:: .bool x.User:: .int .i64 x.Page::us
def bOw(us:List AV):List AV:= .bool false:: .bool false:: .bool false:: .int .i64 (0:Int)::us
def bRp(x:DCore)(us:List AV):List AV:= .int .i64 x.Pc:: .int .i64 x.Root:: .int .i64 x.Vector:: .int .i64 x.Saved:: .bool x.SavedUser:: .int .i64 x.Cause:: .int .i64 x.Bad:: .int .i64 x.Timer:: .bool x.Waits:: .bool x.User:: .bool x.On:: .bool x.Stopped::us
def bPr(us:List AV):List AV:= .int .i64 (0:Int):: .int .i64 (0:Int):: .int .i64 (0:Int):: .int .i64 (0:Int):: .bool false:: .int .i64 (0:Int):: .int .i64 (0:Int):: .int .i64 (0:Int):: .bool false:: .bool false:: .bool false:: .bool false::us
theorem rz{ρ:Nat->Option Nat}{n:Nat}{vs us:List AV}(h:Rens ρ n vs us:=by repeat first|exact oQ|refine bNd ?_|refine bOq ?_|refine bL bLl ?_|refine bL (jM ?_) ?_|refine bL (aNo dd rfl) ?_|refine bL aOq ?_|refine bL (aVs dd rfl rfl) ?_|refine bL (cQ (aV (aE aCv))) ?_|refine bL (cQ (aV (aE aDk))) ?_|refine bL (cQ (aV (aE zQ))) ?_|refine bL (cQ (aV (aE aIu))) ?_|refine bL (cQ (aV (aE aIn))) ?_|refine bL (cQ (aV (aE aCf))) ?_|refine bL (cQ (aV (aE aIf))) ?_|refine bL (cQ (aV (aE aIj))) ?_|refine bL (cQ (aV (aE pP))) ?_|refine bL (cQ (aV (aE aDi))) ?_|refine bL (cQ (aV (aE aDz))) ?_|refine bL (cQ (aV (aE aDm))) ?_|refine bL (cQ (aV (aE vA))) ?_|refine bL (cQ (aV (aE lM))) ?_|refine bL (cQ (aV (aE tU))) ?_|refine bL (cQ (aV (aE aEo))) ?_|refine bL (cQ (aV (aE aDg))) ?_|refine bL (cQ (aV (aE zG))) ?_|refine bL (cQ (aV (aE aIi))) ?_|refine bL (cQ (aV (aE cZ))) ?_|refine bL (cQ (aV (aE aJb))) ?_|refine bL (cQ (aV (aE bK))) ?_|refine bL (cQ (aV (aE bCu))) ?_):Rens ρ n vs us:=h
theorem cz{H:Heap}{vs us:List AV}(h:Clos H vs us:=by repeat first|exact cS|refine cs1 ?_|refine aB (aD (cM (aX aLo))) ?_|refine aB (aD (cM (aX aKw))) ?_|refine aB (aD (cM (aX uV))) ?_|refine aB (aD (cM (aX gD))) ?_|refine aB (aD (cM (aX aPz))) ?_|refine aB (aD (cM (aX aIy))) ?_|refine aB (aD (cM (aX aQl))) ?_|refine aB (aD (cM (aX aQg))) ?_|refine aB (aD (cM (aX zR))) ?_|refine aB (aD (cM (aX aKr))) ?_|refine aB (aD (cM (aX aLb))) ?_|refine aB (aD (cM (aX aKy))) ?_|refine aB (aD (cM (aX yK))) ?_|refine aB (aD (cM (aX aCq))) ?_|refine aB (aD (cM (aX aPy))) ?_|refine aB (aD (cM (aX bI))) ?_|refine aB (aD (cM (aX bCe))) ?_):Clos H vs us:=h
theorem nrr{p:Prop}(h:p:=by simp only[bRl,bRj,bRp,cW,bOo,bOw,bPr,bRs,AV.noRef,aL,AV.noBor,aW,Bool.and_self,aE aCv,aE aDk,aE zQ,aE aIu,aE aIn,aE aCf,aE aIf,aE aIj,aE pP,aE aDi,aE aDz,aE aDm,aE vA,aE lM,aE tU,aE aEo,aE aDg,aE zG,aE aIi,aE cZ,aE aJb,aE bK,aE bCu,aCv,aDk,zQ,aIu,aIn,aCf,aIf,aIj,pP,aDi,aDz,aDm,vA,lM,tU,aEo,aDg,zG,aIi,cZ,aJb,bY aTv,bY aXs,bY aUa,bY aXq,bY aLk,bY aPe,bY aYu,bY aXu,bY aUh,bY aVv,bY bAw,bY aZb,bY bAf,bY aEu,bY bRo,aTv,aXs,aUa,aXq,aLk,aPe,aYu,aXu,aUh,aVv,bAw,aZb,bAf]):p:=h
abbrev rI_3(x:List Int):Root:=⟨3,fl (eI .i64) x⟩
abbrev rC53(x:List DSlot):Root:=⟨53,fl hG x⟩
abbrev rO38(x:List DGuest):Root:=⟨38,fl aQ x⟩
abbrev rB26(x:DHost):Root:=⟨26,cP x⟩
abbrev rC103(x:List DShade):Root:=⟨103,fl pB x⟩
end Go.Proofs.YtkjabgefacfpfaaGreat
