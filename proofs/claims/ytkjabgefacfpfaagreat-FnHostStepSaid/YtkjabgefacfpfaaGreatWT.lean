/- The types of the plain functions. Made by program. -/
import Derived.Test.YtkjabgefacfpfaaGreatZY
import Derived.Test.YtkjabgefacfpfaaGreatProg
namespace Go.Proofs.YtkjabgefacfpfaaGreat
open Go.RowKit
set_option maxRecDepth 100000
set_option linter.all false
set_option maxHeartbeats 0
noncomputable def rg:=cAk Tryz.prog
abbrev LW(k:Nat)(L:LFun):Prop:=kD Tryz.prog k=some L
structure DCore where
 Regs:List Int
 Pc:Int
 Root:Int
 Vector:Int
 Saved:Int
 SavedUser:Bool
 Cause:Int
 Bad:Int
 Timer:Int
 Waits:Bool
 User:Bool
 On:Bool
 Stopped:Bool
deriving Inhabited
structure DSlot where
 Frame:Int
 Write:Bool
 Dirty:Bool
deriving Inhabited
structure DGuest where
 Live:Bool
 C:DCore
 Pages:List DSlot
 In:List Int
 Out:List Int
deriving Inhabited
structure DHost where
 Words:List Int
 Guests:List DGuest
deriving Inhabited
structure DBare where
 C:DCore
 Mem:List Int
 In:List Int
 Out:List Int
deriving Inhabited
structure DIns where
 Op:Int
 A:Int
 N:Int
deriving Inhabited
structure DShade where
 There:Bool
 Write:Bool
 User:Bool
 Page:Int
 Frame:Int
 Ready:Bool
deriving Inhabited
structure DLine where
 Tag:Int
 At:Int
 What:DShade
deriving Inhabited
structure Dl20Rd where
 b:List Int
 p:Int
deriving Inhabited
structure DExit where
 Why:Int
 Page:Int
 What:DIns
deriving Inhabited
structure DEntry where
 There:Bool
 Write:Bool
 User:Bool
 Page:Int
deriving Inhabited
def aKy(x:DBare):List AV:=[bo (eI .i64) x.C.Regs,.int .i64 x.C.Pc,.int .i64 x.C.Root,.int .i64 x.C.Vector,.int .i64 x.C.Saved,.bool x.C.SavedUser,.int .i64 x.C.Cause,.int .i64 x.C.Bad,.int .i64 x.C.Timer,.bool x.C.Waits,.bool x.C.User,.bool x.C.On,.bool x.C.Stopped,bo (eI .i64) x.Mem,bo (eI .i64) x.In,bo (eI .i64) x.Out]
theorem bEo:∀x,noOwn (aKy x)=true:=λ_=>rfl
theorem aTt:∀x,bB (aKy x)=true:=λx=>by simp only[aKy,bB,AV.clean,Bool.and_self,bC cG]
theorem aMl:∀x,aM (aKy x)=true:=λx=>by simp only[aKy,aM,AV.noRef,Bool.and_self,aD aY]
def aKi(x:DCore):List AV:=[bo (eI .i64) x.Regs,.int .i64 x.Pc,.int .i64 x.Root,.int .i64 x.Vector,.int .i64 x.Saved,.bool x.SavedUser,.int .i64 x.Cause,.int .i64 x.Bad,.int .i64 x.Timer,.bool x.Waits,.bool x.User,.bool x.On,.bool x.Stopped]
theorem bFr:∀x,noOwn (aKi x)=true:=λ_=>rfl
theorem aUm:∀x,bB (aKi x)=true:=λx=>by simp only[aKi,bB,AV.clean,Bool.and_self,bC cG]
theorem aMi:∀x,aM (aKi x)=true:=λx=>by simp only[aKi,aM,AV.noRef,Bool.and_self,aD aY]
def hM(x:DSlot):List AV:=[.int .i64 x.Frame,.bool x.Write,.bool x.Dirty]
theorem qU:∀x,(hM x).length=3:=λ_=>rfl
theorem aMr:∀x,noOwn (hM x)=true:=λ_=>rfl
theorem aFa:∀x,bB (hM x)=true:=λ_=>rfl
theorem pO:∀x,aM (hM x)=true:=λ_=>rfl
theorem aUf:∀x,aW (hM x)=true:=λ_=>rfl
def dZ(x:DGuest):List AV:=[.bool x.Live,bo (eI .i64) x.C.Regs,.int .i64 x.C.Pc,.int .i64 x.C.Root,.int .i64 x.C.Vector,.int .i64 x.C.Saved,.bool x.C.SavedUser,.int .i64 x.C.Cause,.int .i64 x.C.Bad,.int .i64 x.C.Timer,.bool x.C.Waits,.bool x.C.User,.bool x.C.On,.bool x.C.Stopped,bo hM x.Pages,bo (eI .i64) x.In,bo (eI .i64) x.Out]
theorem aFt:∀x,(dZ x).length=17:=λ_=>rfl
theorem bFg:∀x,noOwn (dZ x)=true:=λ_=>rfl
theorem aLu:∀x,bB (dZ x)=true:=λx=>by simp only[dZ,bB,AV.clean,Bool.and_self,bC cG,bC aFa]
theorem aEl:∀x,aM (dZ x)=true:=λx=>by simp only[dZ,aM,AV.noRef,Bool.and_self,aD aY,aD pO]
def fP(x:DHost):List AV:=[bo (eI .i64) x.Words,bo dZ x.Guests]
theorem bFf:∀x,noOwn (fP x)=true:=λ_=>rfl
theorem rN:∀x,bB (fP x)=true:=λx=>by simp only[fP,bB,AV.clean,Bool.and_self,bC cG,bC aLu]
theorem aMh:∀x,aM (fP x)=true:=λx=>by simp only[fP,aM,AV.noRef,Bool.and_self,aD aY,aD aEl]
def aAn(x:DSlot):List AV:=[.int .i64 x.Frame,.bool x.Write,.bool x.Dirty]
theorem aVc:∀x,(aAn x).length=3:=λ_=>rfl
theorem aFu:∀x,noOwn (aAn x)=true:=λ_=>rfl
theorem aCq:∀x,bB (aAn x)=true:=λ_=>rfl
theorem wZ:∀x,aM (aAn x)=true:=λ_=>rfl
theorem aOt:∀x,aW (aAn x)=true:=λ_=>rfl
def aAa(x:DGuest):List AV:=[.bool x.Live,bo (eI .i64) x.C.Regs,.int .i64 x.C.Pc,.int .i64 x.C.Root,.int .i64 x.C.Vector,.int .i64 x.C.Saved,.bool x.C.SavedUser,.int .i64 x.C.Cause,.int .i64 x.C.Bad,.int .i64 x.C.Timer,.bool x.C.Waits,.bool x.C.User,.bool x.C.On,.bool x.C.Stopped,bo aAn x.Pages,bo (eI .i64) x.In,bo (eI .i64) x.Out]
theorem aYj:∀x,noOwn (aAa x)=true:=λ_=>rfl
theorem aGz:∀x,bB (aAa x)=true:=λx=>by simp only[aAa,bB,AV.clean,Bool.and_self,bC cG,bC aCq]
theorem aCf:∀x,aM (aAa x)=true:=λx=>by simp only[aAa,aM,AV.noRef,Bool.and_self,aD aY,aD wZ]
def bK(x:DGuest):List AV:=[.bool x.Live,.own 3 1 (List.length x.C.Regs) (fl (eI .i64) x.C.Regs),.int .i64 x.C.Pc,.int .i64 x.C.Root,.int .i64 x.C.Vector,.int .i64 x.C.Saved,.bool x.C.SavedUser,.int .i64 x.C.Cause,.int .i64 x.C.Bad,.int .i64 x.C.Timer,.bool x.C.Waits,.bool x.C.User,.bool x.C.On,.bool x.C.Stopped,.own 53 3 (List.length x.Pages) (fl hM x.Pages),.own 3 1 (List.length x.In) (fl (eI .i64) x.In),.own 3 1 (List.length x.Out) (fl (eI .i64) x.Out)]
theorem aZ:∀x,(bK x).length=17:=λ_=>rfl
theorem cJ:∀x,aM (bK x)=true:=λx=>by simp only[bK,aM,AV.noRef,Bool.and_self,aD aY,aD pO]
theorem bEf:∀x,aW (bK x)=true:=λx=>by simp only[bK,aW,AV.noBor,Bool.and_self,bO aGm,bO aUf]
theorem lL:oA bK dZ:=λx H r π j h=>(aF (aE rfl) (aF (cI (e:=3) rfl bH cH cG (h 1 _ rfl)) (aF (aE rfl) (aF (aE rfl) (aF (aE rfl) (aF (aE rfl) (aF (aE rfl) (aF (aE rfl) (aF (aE rfl) (aF (aE rfl) (aF (aE rfl) (aF (aE rfl) (aF (aE rfl) (aF (aE rfl) (aF (cI (e:=53) rfl qU aMr aFa (h 14 _ rfl)) (aF (cI (e:=3) rfl bH cH cG (h 15 _ rfl)) (aF (cI (e:=3) rfl bH cH cG (h 16 _ rfl)) gF)))))))))))))))))
def pZ(x:DShade):List AV:=[.bool x.There,.bool x.Write,.bool x.User,.int .i64 x.Page,.int .i64 x.Frame,.bool x.Ready]
theorem aJk:∀x,(pZ x).length=6:=λ_=>rfl
theorem aHg:∀x,noOwn (pZ x)=true:=λ_=>rfl
theorem aBs:∀x,bB (pZ x)=true:=λ_=>rfl
theorem rE:∀x,aM (pZ x)=true:=λ_=>rfl
theorem aYo:∀x,aW (pZ x)=true:=λ_=>rfl
def aMm(x:DEntry):List AV:=[.bool x.There,.bool x.Write,.bool x.User,.int .i64 x.Page]
theorem bAz:∀x,noOwn (aMm x)=true:=λ_=>rfl
theorem aOv:∀x,bB (aMm x)=true:=λ_=>rfl
theorem aHp:∀x,aM (aMm x)=true:=λ_=>rfl
theorem aZh:∀x,aW (aMm x)=true:=λ_=>rfl
def eD(x:DIns):List AV:=[.int .i64 x.Op,.int .i64 x.A,.int .i64 x.N]
theorem bEe:∀x,noOwn (eD x)=true:=λ_=>rfl
theorem aTo:∀x,bB (eD x)=true:=λ_=>rfl
theorem rP:∀x,aM (eD x)=true:=λ_=>rfl
theorem bFp:∀x,aW (eD x)=true:=λ_=>rfl
def aMj(x:DExit):List AV:=[.int .i64 x.Why,.int .i64 x.Page,.int .i64 x.What.Op,.int .i64 x.What.A,.int .i64 x.What.N]
theorem bAk:∀x,noOwn (aMj x)=true:=λ_=>rfl
theorem aQm:∀x,bB (aMj x)=true:=λ_=>rfl
theorem aHr:∀x,aM (aMj x)=true:=λ_=>rfl
theorem aXy:∀x,aW (aMj x)=true:=λ_=>rfl
def aMa(x:DLine):List AV:=[.int .i64 x.Tag,.int .i64 x.At,.bool x.What.There,.bool x.What.Write,.bool x.What.User,.int .i64 x.What.Page,.int .i64 x.What.Frame,.bool x.What.Ready]
theorem aYn:∀x,noOwn (aMa x)=true:=λ_=>rfl
theorem aPn:∀x,bB (aMa x)=true:=λ_=>rfl
theorem aFw:∀x,aM (aMa x)=true:=λ_=>rfl
theorem aZi:∀x,aW (aMa x)=true:=λ_=>rfl
def aAb(x:Dl20Rd):List AV:=[bo (eI .u8) x.b,.int .i64 x.p]
theorem aZf:∀x,noOwn (aAb x)=true:=λ_=>rfl
theorem aOs:∀x,bB (aAb x)=true:=λx=>by simp only[aAb,bB,AV.clean,Bool.and_self,bC cG]
theorem cY:∀x,aM (aAb x)=true:=λx=>by simp only[aAb,aM,AV.noRef,Bool.and_self,aD aY]
def aOm(x:DHost):List AV:=[bo (eI .i64) x.Words,bo aAa x.Guests]
theorem bFc:∀x,noOwn (aOm x)=true:=λ_=>rfl
theorem aTd:∀x,bB (aOm x)=true:=λx=>by simp only[aOm,bB,AV.clean,Bool.and_self,bC cG,bC aGz]
theorem aMu:∀x,aM (aOm x)=true:=λx=>by simp only[aOm,aM,AV.noRef,Bool.and_self,aD aY,aD aCf]
def aCw(x:DCore):List AV:=[bo (eI .i64) x.Regs,.int .i64 x.Pc,.int .i64 x.Root,.int .i64 x.Vector,.int .i64 x.Saved,.bool x.SavedUser,.int .i64 x.Cause,.int .i64 x.Bad,.int .i64 x.Timer,.bool x.Waits,.bool x.User,.bool x.On,.bool x.Stopped]
theorem bBx:∀x,noOwn (aCw x)=true:=λ_=>rfl
theorem aPl:∀x,bB (aCw x)=true:=λx=>by simp only[aCw,bB,AV.clean,Bool.and_self,bC cG]
theorem aGd:∀x,aM (aCw x)=true:=λx=>by simp only[aCw,aM,AV.noRef,Bool.and_self,aD aY]
def aPo(x:DCore):List AV:=[.own 3 1 (List.length x.Regs) (fl (eI .i64) x.Regs),.int .i64 x.Pc,.int .i64 x.Root,.int .i64 x.Vector,.int .i64 x.Saved,.bool x.SavedUser,.int .i64 x.Cause,.int .i64 x.Bad,.int .i64 x.Timer,.bool x.Waits,.bool x.User,.bool x.On,.bool x.Stopped]
theorem aMk:∀x,aM (aPo x)=true:=λx=>by simp only[aPo,aM,AV.noRef,Bool.and_self,aD aY]
theorem bDl:∀x,aW (aPo x)=true:=λx=>by simp only[aPo,aW,AV.noBor,Bool.and_self,bO aGm]
theorem bRw:oA aPo aKi:=λx H r π j h=>(aF (cI (e:=3) rfl bH cH cG (h 0 _ rfl)) (aF (aE rfl) (aF (aE rfl) (aF (aE rfl) (aF (aE rfl) (aF (aE rfl) (aF (aE rfl) (aF (aE rfl) (aF (aE rfl) (aF (aE rfl) (aF (aE rfl) (aF (aE rfl) (aF (aE rfl) gF)))))))))))))
def aQa(x:DBare):List AV:=[.own 3 1 (List.length x.C.Regs) (fl (eI .i64) x.C.Regs),.int .i64 x.C.Pc,.int .i64 x.C.Root,.int .i64 x.C.Vector,.int .i64 x.C.Saved,.bool x.C.SavedUser,.int .i64 x.C.Cause,.int .i64 x.C.Bad,.int .i64 x.C.Timer,.bool x.C.Waits,.bool x.C.User,.bool x.C.On,.bool x.C.Stopped,.own 3 1 (List.length x.Mem) (fl (eI .i64) x.Mem),.own 3 1 (List.length x.In) (fl (eI .i64) x.In),.own 3 1 (List.length x.Out) (fl (eI .i64) x.Out)]
theorem aMt:∀x,aM (aQa x)=true:=λx=>by simp only[aQa,aM,AV.noRef,Bool.and_self,aD aY]
theorem bDq:∀x,aW (aQa x)=true:=λx=>by simp only[aQa,aW,AV.noBor,Bool.and_self,bO aGm]
theorem bSd:oA aQa aKy:=λx H r π j h=>(aF (cI (e:=3) rfl bH cH cG (h 0 _ rfl)) (aF (aE rfl) (aF (aE rfl) (aF (aE rfl) (aF (aE rfl) (aF (aE rfl) (aF (aE rfl) (aF (aE rfl) (aF (aE rfl) (aF (aE rfl) (aF (aE rfl) (aF (aE rfl) (aF (aE rfl) (aF (cI (e:=3) rfl bH cH cG (h 13 _ rfl)) (aF (cI (e:=3) rfl bH cH cG (h 14 _ rfl)) (aF (cI (e:=3) rfl bH cH cG (h 15 _ rfl)) gF))))))))))))))))
def aFr(x:Dl20Rd):List AV:=[.own 5 1 (List.length x.b) (fl (eI .u8) x.b),.int .i64 x.p]
theorem aGf:∀x,aM (aFr x)=true:=λx=>by simp only[aFr,aM,AV.noRef,Bool.and_self,aD aY]
theorem aXi:∀x,aW (aFr x)=true:=λx=>by simp only[aFr,aW,AV.noBor,Bool.and_self,bO aGm]
theorem bPm:oA aFr aAb:=λx H r π j h=>(aF (cI (e:=5) rfl bH cH cG (h 0 _ rfl)) (aF (aE rfl) gF))
def aGe(x:DCore):List AV:=[.own 3 1 (List.length x.Regs) (fl (eI .i64) x.Regs),.int .i64 x.Pc,.int .i64 x.Root,.int .i64 x.Vector,.int .i64 x.Saved,.bool x.SavedUser,.int .i64 x.Cause,.int .i64 x.Bad,.int .i64 x.Timer,.bool x.Waits,.bool x.User,.bool x.On,.bool x.Stopped]
theorem aGn:∀x,aM (aGe x)=true:=λx=>by simp only[aGe,aM,AV.noRef,Bool.and_self,aD aY]
theorem aXk:∀x,aW (aGe x)=true:=λx=>by simp only[aGe,aW,AV.noBor,Bool.and_self,bO aGm]
theorem bOw:oA aGe aCw:=λx H r π j h=>(aF (cI (e:=3) rfl bH cH cG (h 0 _ rfl)) (aF (aE rfl) (aF (aE rfl) (aF (aE rfl) (aF (aE rfl) (aF (aE rfl) (aF (aE rfl) (aF (aE rfl) (aF (aE rfl) (aF (aE rfl) (aF (aE rfl) (aF (aE rfl) (aF (aE rfl) gF)))))))))))))
def aDf(x:DGuest):List AV:=[.bool x.Live,.own 3 1 (List.length x.C.Regs) (fl (eI .i64) x.C.Regs),.int .i64 x.C.Pc,.int .i64 x.C.Root,.int .i64 x.C.Vector,.int .i64 x.C.Saved,.bool x.C.SavedUser,.int .i64 x.C.Cause,.int .i64 x.C.Bad,.int .i64 x.C.Timer,.bool x.C.Waits,.bool x.C.User,.bool x.C.On,.bool x.C.Stopped,.own 184 3 (List.length x.Pages) (fl aAn x.Pages),.own 3 1 (List.length x.In) (fl (eI .i64) x.In),.own 3 1 (List.length x.Out) (fl (eI .i64) x.Out)]
theorem aCi:∀x,aM (aDf x)=true:=λx=>by simp only[aDf,aM,AV.noRef,Bool.and_self,aD aY,aD wZ]
theorem bCf:∀x,aW (aDf x)=true:=λx=>by simp only[aDf,aW,AV.noBor,Bool.and_self,bO aGm,bO aOt]
theorem bQa:oA aDf aAa:=λx H r π j h=>(aF (aE rfl) (aF (cI (e:=3) rfl bH cH cG (h 1 _ rfl)) (aF (aE rfl) (aF (aE rfl) (aF (aE rfl) (aF (aE rfl) (aF (aE rfl) (aF (aE rfl) (aF (aE rfl) (aF (aE rfl) (aF (aE rfl) (aF (aE rfl) (aF (aE rfl) (aF (aE rfl) (aF (cI (e:=184) rfl aVc aFu aCq (h 14 _ rfl)) (aF (cI (e:=3) rfl bH cH cG (h 15 _ rfl)) (aF (cI (e:=3) rfl bH cH cG (h 16 _ rfl)) gF)))))))))))))))))
def cP(x:DCore)(us:List AV):List AV:= .int .i64 x.Pc:: .int .i64 x.Root:: .int .i64 x.Vector:: .int .i64 x.Saved:: .bool x.SavedUser:: .int .i64 x.Cause:: .int .i64 x.Bad:: .int .i64 x.Timer:: .bool x.Waits:: .bool x.User:: .bool x.On:: .bool x.Stopped::us
def aHt(us:List AV):List AV:= .int .i64 (0:Int):: .int .i64 (0:Int):: .int .i64 (0:Int):: .int .i64 (0:Int):: .bool false:: .int .i64 (0:Int):: .int .i64 (0:Int):: .int .i64 (0:Int):: .bool false:: .bool false:: .bool false:: .bool false::us
def bXz(x:DShade)(us:List AV):List AV:= .bool x.There:: .bool x.Write:: .bool x.User:: .int .i64 x.Page:: .int .i64 x.Frame:: .bool x.Ready::us
def bUp(us:List AV):List AV:= .bool false:: .bool false:: .bool false:: .int .i64 (0:Int):: .int .i64 (0:Int):: .bool false::us
def bXs(x:DEntry)(us:List AV):List AV:= .bool x.There:: .bool x.Write:: .bool x.User:: .int .i64 x.Page::us
def bVb(us:List AV):List AV:= .bool false:: .bool false:: .bool false:: .int .i64 (0:Int)::us
def bXt(x:DCore)(us:List AV):List AV:= .int .i64 x.Pc:: .int .i64 x.Root:: .int .i64 x.Vector:: .int .i64 x.Saved:: .bool x.SavedUser:: .int .i64 x.Cause:: .int .i64 x.Bad:: .int .i64 x.Timer:: .bool x.Waits:: .bool x.User:: .bool x.On:: .bool x.Stopped::us
def bUx(us:List AV):List AV:= .int .i64 (0:Int):: .int .i64 (0:Int):: .int .i64 (0:Int):: .int .i64 (0:Int):: .bool false:: .int .i64 (0:Int):: .int .i64 (0:Int):: .int .i64 (0:Int):: .bool false:: .bool false:: .bool false:: .bool false::us
theorem rz{ρ:Nat->Option Nat}{n:Nat}{vs us:List AV}(h:Rens ρ n vs us:=by repeat first|exact oY|refine bTf ?_|refine bWu ?_|refine bG bRx ?_|refine bG (eZ ?_) ?_|refine bG (aDu dd rfl) ?_|refine bG aBv ?_|refine bG (aXu dd rfl rfl) ?_|refine bG (cK (aG (aD cY))) ?_|refine bG (cK (aG (aD aGd))) ?_|refine bG (cK (aG (aD aCf))) ?_|refine bG (cK (aG (aD aMh))) ?_|refine bG (cK (aG (aD aMi))) ?_|refine bG (cK (aG (aD aEl))) ?_|refine bG (cK (aG (aD aMl))) ?_|refine bG (cK (aG (aD aMu))) ?_|refine bG (cK (aG (aD rE))) ?_|refine bG (cK (aG (aD aFw))) ?_|refine bG (cK (aG (aD aHr))) ?_|refine bG (cK (aG (aD aHp))) ?_|refine bG (cK (aG (aD wZ))) ?_|refine bG (cK (aG (aD pO))) ?_|refine bG (cK (aG (aD rP))) ?_|refine bG (cK (aG (aD aGf))) ?_|refine bG (cK (aG (aD aGn))) ?_|refine bG (cK (aG (aD aCi))) ?_|refine bG (cK (aG (aD aMk))) ?_|refine bG (cK (aG (aD cJ))) ?_|refine bG (cK (aG (aD aMt))) ?_|refine bG (cK (aG (aD aY))) ?_|refine bG (cK (aG (aD bHj))) ?_):Rens ρ n vs us:=h
theorem cz{H:Heap}{vs us:List AV}(h:Clos H vs us:=by repeat first|exact gF|refine cs1 ?_|refine aF (aE (dB (bC aOs))) ?_|refine aF (aE (dB (bC aPl))) ?_|refine aF (aE (dB (bC aGz))) ?_|refine aF (aE (dB (bC rN))) ?_|refine aF (aE (dB (bC aUm))) ?_|refine aF (aE (dB (bC aLu))) ?_|refine aF (aE (dB (bC aTt))) ?_|refine aF (aE (dB (bC aTd))) ?_|refine aF (aE (dB (bC aBs))) ?_|refine aF (aE (dB (bC aPn))) ?_|refine aF (aE (dB (bC aQm))) ?_|refine aF (aE (dB (bC aOv))) ?_|refine aF (aE (dB (bC aCq))) ?_|refine aF (aE (dB (bC aFa))) ?_|refine aF (aE (dB (bC aTo))) ?_|refine aF (aE (dB (bC cG))) ?_|refine aF (aE (dB (bC bIu))) ?_):Clos H vs us:=h
theorem nrr{p:Prop}(h:p:=by simp only[bXz,bXs,bXt,cP,bUp,bVb,bUx,aHt,AV.noRef,aM,AV.noBor,aW,Bool.and_self,aD cY,aD aGd,aD aCf,aD aMh,aD aMi,aD aEl,aD aMl,aD aMu,aD rE,aD aFw,aD aHr,aD aHp,aD wZ,aD pO,aD rP,aD aGf,aD aGn,aD aCi,aD aMk,aD cJ,aD aMt,aD aY,aD bHj,cY,aGd,aCf,aMh,aMi,aEl,aMl,aMu,rE,aFw,aHr,aHp,wZ,pO,rP,aGf,aGn,aCi,aMk,cJ,aMt,bO aYo,bO aZi,bO aXy,bO aZh,bO aOt,bO aUf,bO bFp,bO aXi,bO aXk,bO bCf,bO bDl,bO bEf,bO bDq,bO aGm,bO bXk,aYo,aZi,aXy,aZh,aOt,aUf,bFp,aXi,aXk,bCf,bDl,bEf,bDq]):p:=h
abbrev zc0:List AV:=[bb false,.nil,ii 0,ii 0,ii 0,ii 0,bb false,ii 0,ii 0,ii 0,bb false,bb false,bb false,bb false,.nil,.nil,.nil]
abbrev rI_3(x:List Int):Root:=⟨3,fl (eI .i64) x⟩
abbrev rO38(x:List DGuest):Root:=⟨38,fl bK x⟩
abbrev rB26(x:DHost):Root:=⟨26,fP x⟩
abbrev rC103(x:List DShade):Root:=⟨103,fl pZ x⟩
abbrev rB118(x:Dl20Rd):Root:=⟨118,aAb x⟩
end Go.Proofs.YtkjabgefacfpfaaGreat
