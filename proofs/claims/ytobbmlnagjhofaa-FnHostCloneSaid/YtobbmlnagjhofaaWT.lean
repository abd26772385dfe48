/- The types of the plain functions. Made by program. -/
import Derived.Test.YtobbmlnagjhofaaZY
import Derived.Test.YtobbmlnagjhofaaProg
namespace Go.Proofs.Ytobbmlnagjhofaa
open Go.RowKit
set_option maxRecDepth 100000
set_option linter.all false
set_option maxHeartbeats 0
noncomputable def rg:=bLn Try.prog
abbrev LW(k:Nat)(L:LFun):Prop:=iN Try.prog k=some L
structure DCore where
 Regs:List Int
 Pc:Int
 Root:Int
 Vector:Int
 Saved:Int
 SavedUser:Bool
 Cause:Int
 Bad:Int
 Timer:Int
 Waits:Bool
 User:Bool
 On:Bool
 Stopped:Bool
deriving Inhabited
structure DSlot where
 Frame:Int
 Write:Bool
 Dirty:Bool
deriving Inhabited
structure DGuest where
 Live:Bool
 C:DCore
 Pages:List DSlot
 In:List Int
 Out:List Int
deriving Inhabited
structure DHost where
 Words:List Int
 Guests:List DGuest
deriving Inhabited
structure DBare where
 C:DCore
 Mem:List Int
 In:List Int
 Out:List Int
deriving Inhabited
structure Dl20Rd where
 b:List Int
 p:Int
deriving Inhabited
structure DEntry where
 There:Bool
 Write:Bool
 User:Bool
 Page:Int
deriving Inhabited
structure DIns where
 Op:Int
 A:Int
 N:Int
deriving Inhabited
def nI(x:DBare):List AV:=[bo (eI .i64) x.C.Regs,.int .i64 x.C.Pc,.int .i64 x.C.Root,.int .i64 x.C.Vector,.int .i64 x.C.Saved,.bool x.C.SavedUser,.int .i64 x.C.Cause,.int .i64 x.C.Bad,.int .i64 x.C.Timer,.bool x.C.Waits,.bool x.C.User,.bool x.C.On,.bool x.C.Stopped,bo (eI .i64) x.Mem,bo (eI .i64) x.In,bo (eI .i64) x.Out]
theorem aUu:∀x,noOwn (nI x)=true:=λ_=>rfl
theorem aEp:∀x,aS (nI x)=true:=λx=>by simp only[nI,aS,AV.clean,Bool.and_self,bN cE]
theorem aEt:∀x,aH (nI x)=true:=λx=>by simp only[nI,aH,AV.noRef,Bool.and_self,aB bE]
def aEh(x:DCore):List AV:=[bo (eI .i64) x.Regs,.int .i64 x.Pc,.int .i64 x.Root,.int .i64 x.Vector,.int .i64 x.Saved,.bool x.SavedUser,.int .i64 x.Cause,.int .i64 x.Bad,.int .i64 x.Timer,.bool x.Waits,.bool x.User,.bool x.On,.bool x.Stopped]
theorem aVr:∀x,noOwn (aEh x)=true:=λ_=>rfl
theorem aUa:∀x,aS (aEh x)=true:=λx=>by simp only[aEh,aS,AV.clean,Bool.and_self,bN cE]
theorem aFj:∀x,aH (aEh x)=true:=λx=>by simp only[aEh,aH,AV.noRef,Bool.and_self,aB bE]
def eN(x:DSlot):List AV:=[.int .i64 x.Frame,.bool x.Write,.bool x.Dirty]
theorem pP:∀x,(eN x).length=3:=λ_=>rfl
theorem yZ:∀x,noOwn (eN x)=true:=λ_=>rfl
theorem yK:∀x,aS (eN x)=true:=λ_=>rfl
theorem hM:∀x,aH (eN x)=true:=λ_=>rfl
theorem aKw:∀x,aO (eN x)=true:=λ_=>rfl
def lN(x:DGuest):List AV:=[.bool x.Live,bo (eI .i64) x.C.Regs,.int .i64 x.C.Pc,.int .i64 x.C.Root,.int .i64 x.C.Vector,.int .i64 x.C.Saved,.bool x.C.SavedUser,.int .i64 x.C.Cause,.int .i64 x.C.Bad,.int .i64 x.C.Timer,.bool x.C.Waits,.bool x.C.User,.bool x.C.On,.bool x.C.Stopped,bo eN x.Pages,bo (eI .i64) x.In,bo (eI .i64) x.Out]
theorem aUo:∀x,noOwn (lN x)=true:=λ_=>rfl
theorem aLv:∀x,aS (lN x)=true:=λx=>by simp only[lN,aS,AV.clean,Bool.and_self,bN cE,bN yK]
theorem zF:∀x,aH (lN x)=true:=λx=>by simp only[lN,aH,AV.noRef,Bool.and_self,aB bE,aB hM]
def rB(x:DHost):List AV:=[bo (eI .i64) x.Words,bo lN x.Guests]
theorem aTe:∀x,noOwn (rB x)=true:=λ_=>rfl
theorem aLj:∀x,aS (rB x)=true:=λx=>by simp only[rB,aS,AV.clean,Bool.and_self,bN cE,bN aLv]
theorem aEz:∀x,aH (rB x)=true:=λx=>by simp only[rB,aH,AV.noRef,Bool.and_self,aB bE,aB zF]
def vO(x:DSlot):List AV:=[.int .i64 x.Frame,.bool x.Write,.bool x.Dirty]
theorem aLw:∀x,(vO x).length=3:=λ_=>rfl
theorem aAf:∀x,noOwn (vO x)=true:=λ_=>rfl
theorem aBc:∀x,aS (vO x)=true:=λ_=>rfl
theorem sB:∀x,aH (vO x)=true:=λ_=>rfl
theorem aHz:∀x,aO (vO x)=true:=λ_=>rfl
def vD(x:DGuest):List AV:=[.bool x.Live,bo (eI .i64) x.C.Regs,.int .i64 x.C.Pc,.int .i64 x.C.Root,.int .i64 x.C.Vector,.int .i64 x.C.Saved,.bool x.C.SavedUser,.int .i64 x.C.Cause,.int .i64 x.C.Bad,.int .i64 x.C.Timer,.bool x.C.Waits,.bool x.C.User,.bool x.C.On,.bool x.C.Stopped,bo vO x.Pages,bo (eI .i64) x.In,bo (eI .i64) x.Out]
theorem aRi:∀x,noOwn (vD x)=true:=λ_=>rfl
theorem aIg:∀x,aS (vD x)=true:=λx=>by simp only[vD,aS,AV.clean,Bool.and_self,bN cE,bN aBc]
theorem wJ:∀x,aH (vD x)=true:=λx=>by simp only[vD,aH,AV.noRef,Bool.and_self,aB bE,aB sB]
def kI(x:DGuest):List AV:=[.bool x.Live,.own 3 1 (List.length x.C.Regs) (fl (eI .i64) x.C.Regs),.int .i64 x.C.Pc,.int .i64 x.C.Root,.int .i64 x.C.Vector,.int .i64 x.C.Saved,.bool x.C.SavedUser,.int .i64 x.C.Cause,.int .i64 x.C.Bad,.int .i64 x.C.Timer,.bool x.C.Waits,.bool x.C.User,.bool x.C.On,.bool x.C.Stopped,.own 83 3 (List.length x.Pages) (fl eN x.Pages),.own 3 1 (List.length x.In) (fl (eI .i64) x.In),.own 3 1 (List.length x.Out) (fl (eI .i64) x.Out)]
theorem wR:∀x,(kI x).length=17:=λ_=>rfl
theorem nY:∀x,aH (kI x)=true:=λx=>by simp only[kI,aH,AV.noRef,Bool.and_self,aB bE,aB hM]
theorem aTs:∀x,aO (kI x)=true:=λx=>by simp only[kI,aO,AV.noBor,Bool.and_self,bH xI,bH aKw]
theorem aVh:kE kI lN:=λx H r π j h=>(aG (aC rfl) (aG (cV (e:=3) rfl bK cG cE (h 1 _ rfl)) (aG (aC rfl) (aG (aC rfl) (aG (aC rfl) (aG (aC rfl) (aG (aC rfl) (aG (aC rfl) (aG (aC rfl) (aG (aC rfl) (aG (aC rfl) (aG (aC rfl) (aG (aC rfl) (aG (aC rfl) (aG (cV (e:=83) rfl pP yZ yK (h 14 _ rfl)) (aG (cV (e:=3) rfl bK cG cE (h 15 _ rfl)) (aG (cV (e:=3) rfl bK cG cE (h 16 _ rfl)) sR)))))))))))))))))
def aFh(x:DIns):List AV:=[.int .i64 x.Op,.int .i64 x.A,.int .i64 x.N]
theorem aPh:∀x,noOwn (aFh x)=true:=λ_=>rfl
theorem aQy:∀x,aS (aFh x)=true:=λ_=>rfl
theorem aAt:∀x,aH (aFh x)=true:=λ_=>rfl
theorem aRa:∀x,aO (aFh x)=true:=λ_=>rfl
def xX(x:Dl20Rd):List AV:=[bo (eI .u8) x.b,.int .i64 x.p]
theorem aPd:∀x,noOwn (xX x)=true:=λ_=>rfl
theorem aQn:∀x,aS (xX x)=true:=λx=>by simp only[xX,aS,AV.clean,Bool.and_self,bN cE]
theorem zR:∀x,aH (xX x)=true:=λx=>by simp only[xX,aH,AV.noRef,Bool.and_self,aB bE]
def aEq(x:DEntry):List AV:=[.bool x.There,.bool x.Write,.bool x.User,.int .i64 x.Page]
theorem aRx:∀x,noOwn (aEq x)=true:=λ_=>rfl
theorem aOj:∀x,aS (aEq x)=true:=λ_=>rfl
theorem aBj:∀x,aH (aEq x)=true:=λ_=>rfl
theorem aOa:∀x,aO (aEq x)=true:=λ_=>rfl
def aIc(x:DHost):List AV:=[bo (eI .i64) x.Words,bo vD x.Guests]
theorem aUv:∀x,noOwn (aIc x)=true:=λ_=>rfl
theorem aUx:∀x,aS (aIc x)=true:=λx=>by simp only[aIc,aS,AV.clean,Bool.and_self,bN cE,bN aIg]
theorem aEs:∀x,aH (aIc x)=true:=λx=>by simp only[aIc,aH,AV.noRef,Bool.and_self,aB bE,aB wJ]
def aCg(x:DCore):List AV:=[bo (eI .i64) x.Regs,.int .i64 x.Pc,.int .i64 x.Root,.int .i64 x.Vector,.int .i64 x.Saved,.bool x.SavedUser,.int .i64 x.Cause,.int .i64 x.Bad,.int .i64 x.Timer,.bool x.Waits,.bool x.User,.bool x.On,.bool x.Stopped]
theorem aTq:∀x,noOwn (aCg x)=true:=λ_=>rfl
theorem aTn:∀x,aS (aCg x)=true:=λx=>by simp only[aCg,aS,AV.clean,Bool.and_self,bN cE]
theorem aEo:∀x,aH (aCg x)=true:=λx=>by simp only[aCg,aH,AV.noRef,Bool.and_self,aB bE]
def aCq(x:DBare):List AV:=[bo (eI .i64) x.C.Regs,.int .i64 x.C.Pc,.int .i64 x.C.Root,.int .i64 x.C.Vector,.int .i64 x.C.Saved,.bool x.C.SavedUser,.int .i64 x.C.Cause,.int .i64 x.C.Bad,.int .i64 x.C.Timer,.bool x.C.Waits,.bool x.C.User,.bool x.C.On,.bool x.C.Stopped,bo (eI .i64) x.Mem,bo (eI .i64) x.In,bo (eI .i64) x.Out]
theorem aTv:∀x,noOwn (aCq x)=true:=λ_=>rfl
theorem aVi:∀x,aS (aCq x)=true:=λx=>by simp only[aCq,aS,AV.clean,Bool.and_self,bN cE]
theorem aEv:∀x,aH (aCq x)=true:=λx=>by simp only[aCq,aH,AV.noRef,Bool.and_self,aB bE]
def aGn(x:DCore):List AV:=[.own 3 1 (List.length x.Regs) (fl (eI .i64) x.Regs),.int .i64 x.Pc,.int .i64 x.Root,.int .i64 x.Vector,.int .i64 x.Saved,.bool x.SavedUser,.int .i64 x.Cause,.int .i64 x.Bad,.int .i64 x.Timer,.bool x.Waits,.bool x.User,.bool x.On,.bool x.Stopped]
theorem aFd:∀x,aH (aGn x)=true:=λx=>by simp only[aGn,aH,AV.noRef,Bool.and_self,aB bE]
theorem aVo:∀x,aO (aGn x)=true:=λx=>by simp only[aGn,aO,AV.noBor,Bool.and_self,bH xI]
theorem bFu:kE aGn aEh:=λx H r π j h=>(aG (cV (e:=3) rfl bK cG cE (h 0 _ rfl)) (aG (aC rfl) (aG (aC rfl) (aG (aC rfl) (aG (aC rfl) (aG (aC rfl) (aG (aC rfl) (aG (aC rfl) (aG (aC rfl) (aG (aC rfl) (aG (aC rfl) (aG (aC rfl) (aG (aC rfl) sR)))))))))))))
def aId(x:DBare):List AV:=[.own 3 1 (List.length x.C.Regs) (fl (eI .i64) x.C.Regs),.int .i64 x.C.Pc,.int .i64 x.C.Root,.int .i64 x.C.Vector,.int .i64 x.C.Saved,.bool x.C.SavedUser,.int .i64 x.C.Cause,.int .i64 x.C.Bad,.int .i64 x.C.Timer,.bool x.C.Waits,.bool x.C.User,.bool x.C.On,.bool x.C.Stopped,.own 3 1 (List.length x.Mem) (fl (eI .i64) x.Mem),.own 3 1 (List.length x.In) (fl (eI .i64) x.In),.own 3 1 (List.length x.Out) (fl (eI .i64) x.Out)]
theorem aFi:∀x,aH (aId x)=true:=λx=>by simp only[aId,aH,AV.noRef,Bool.and_self,aB bE]
theorem aTh:∀x,aO (aId x)=true:=λx=>by simp only[aId,aO,AV.noBor,Bool.and_self,bH xI]
theorem bHd:kE aId nI:=λx H r π j h=>(aG (cV (e:=3) rfl bK cG cE (h 0 _ rfl)) (aG (aC rfl) (aG (aC rfl) (aG (aC rfl) (aG (aC rfl) (aG (aC rfl) (aG (aC rfl) (aG (aC rfl) (aG (aC rfl) (aG (aC rfl) (aG (aC rfl) (aG (aC rfl) (aG (aC rfl) (aG (cV (e:=3) rfl bK cG cE (h 13 _ rfl)) (aG (cV (e:=3) rfl bK cG cE (h 14 _ rfl)) (aG (cV (e:=3) rfl bK cG cE (h 15 _ rfl)) sR))))))))))))))))
def aGl(x:DCore):List AV:=[.own 3 1 (List.length x.Regs) (fl (eI .i64) x.Regs),.int .i64 x.Pc,.int .i64 x.Root,.int .i64 x.Vector,.int .i64 x.Saved,.bool x.SavedUser,.int .i64 x.Cause,.int .i64 x.Bad,.int .i64 x.Timer,.bool x.Waits,.bool x.User,.bool x.On,.bool x.Stopped]
theorem aEy:∀x,aH (aGl x)=true:=λx=>by simp only[aGl,aH,AV.noRef,Bool.and_self,aB bE]
theorem aUm:∀x,aO (aGl x)=true:=λx=>by simp only[aGl,aO,AV.noBor,Bool.and_self,bH xI]
theorem bHn:kE aGl aCg:=λx H r π j h=>(aG (cV (e:=3) rfl bK cG cE (h 0 _ rfl)) (aG (aC rfl) (aG (aC rfl) (aG (aC rfl) (aG (aC rfl) (aG (aC rfl) (aG (aC rfl) (aG (aC rfl) (aG (aC rfl) (aG (aC rfl) (aG (aC rfl) (aG (aC rfl) (aG (aC rfl) sR)))))))))))))
def aHe(x:DBare):List AV:=[.own 3 1 (List.length x.C.Regs) (fl (eI .i64) x.C.Regs),.int .i64 x.C.Pc,.int .i64 x.C.Root,.int .i64 x.C.Vector,.int .i64 x.C.Saved,.bool x.C.SavedUser,.int .i64 x.C.Cause,.int .i64 x.C.Bad,.int .i64 x.C.Timer,.bool x.C.Waits,.bool x.C.User,.bool x.C.On,.bool x.C.Stopped,.own 3 1 (List.length x.Mem) (fl (eI .i64) x.Mem),.own 3 1 (List.length x.In) (fl (eI .i64) x.In),.own 3 1 (List.length x.Out) (fl (eI .i64) x.Out)]
theorem aEm:∀x,aH (aHe x)=true:=λx=>by simp only[aHe,aH,AV.noRef,Bool.and_self,aB bE]
theorem aUb:∀x,aO (aHe x)=true:=λx=>by simp only[aHe,aO,AV.noBor,Bool.and_self,bH xI]
theorem bFl:kE aHe aCq:=λx H r π j h=>(aG (cV (e:=3) rfl bK cG cE (h 0 _ rfl)) (aG (aC rfl) (aG (aC rfl) (aG (aC rfl) (aG (aC rfl) (aG (aC rfl) (aG (aC rfl) (aG (aC rfl) (aG (aC rfl) (aG (aC rfl) (aG (aC rfl) (aG (aC rfl) (aG (aC rfl) (aG (cV (e:=3) rfl bK cG cE (h 13 _ rfl)) (aG (cV (e:=3) rfl bK cG cE (h 14 _ rfl)) (aG (cV (e:=3) rfl bK cG cE (h 15 _ rfl)) sR))))))))))))))))
def aBo(x:Dl20Rd):List AV:=[.own 5 1 (List.length x.b) (fl (eI .u8) x.b),.int .i64 x.p]
theorem zW:∀x,aH (aBo x)=true:=λx=>by simp only[aBo,aH,AV.noRef,Bool.and_self,aB bE]
theorem aPm:∀x,aO (aBo x)=true:=λx=>by simp only[aBo,aO,AV.noBor,Bool.and_self,bH xI]
theorem bEm:kE aBo xX:=λx H r π j h=>(aG (cV (e:=5) rfl bK cG cE (h 0 _ rfl)) (aG (aC rfl) sR))
def xP(x:DGuest):List AV:=[.bool x.Live,.own 3 1 (List.length x.C.Regs) (fl (eI .i64) x.C.Regs),.int .i64 x.C.Pc,.int .i64 x.C.Root,.int .i64 x.C.Vector,.int .i64 x.C.Saved,.bool x.C.SavedUser,.int .i64 x.C.Cause,.int .i64 x.C.Bad,.int .i64 x.C.Timer,.bool x.C.Waits,.bool x.C.User,.bool x.C.On,.bool x.C.Stopped,.own 145 3 (List.length x.Pages) (fl vO x.Pages),.own 3 1 (List.length x.In) (fl (eI .i64) x.In),.own 3 1 (List.length x.Out) (fl (eI .i64) x.Out)]
theorem wE:∀x,aH (xP x)=true:=λx=>by simp only[xP,aH,AV.noRef,Bool.and_self,aB bE,aB sB]
theorem aPe:∀x,aO (xP x)=true:=λx=>by simp only[xP,aO,AV.noBor,Bool.and_self,bH xI,bH aHz]
theorem bDd:kE xP vD:=λx H r π j h=>(aG (aC rfl) (aG (cV (e:=3) rfl bK cG cE (h 1 _ rfl)) (aG (aC rfl) (aG (aC rfl) (aG (aC rfl) (aG (aC rfl) (aG (aC rfl) (aG (aC rfl) (aG (aC rfl) (aG (aC rfl) (aG (aC rfl) (aG (aC rfl) (aG (aC rfl) (aG (aC rfl) (aG (cV (e:=145) rfl aLw aAf aBc (h 14 _ rfl)) (aG (cV (e:=3) rfl bK cG cE (h 15 _ rfl)) (aG (cV (e:=3) rfl bK cG cE (h 16 _ rfl)) sR)))))))))))))))))
def bLh(x:DCore)(us:List AV):List AV:= .int .i64 x.Pc:: .int .i64 x.Root:: .int .i64 x.Vector:: .int .i64 x.Saved:: .bool x.SavedUser:: .int .i64 x.Cause:: .int .i64 x.Bad:: .int .i64 x.Timer:: .bool x.Waits:: .bool x.User:: .bool x.On:: .bool x.Stopped::us
def mT(us:List AV):List AV:= .int .i64 (0:Int):: .int .i64 (0:Int):: .int .i64 (0:Int):: .int .i64 (0:Int):: .bool false:: .int .i64 (0:Int):: .int .i64 (0:Int):: .int .i64 (0:Int):: .bool false:: .bool false:: .bool false:: .bool false::us
def bKc(x:DEntry)(us:List AV):List AV:= .bool x.There:: .bool x.Write:: .bool x.User:: .int .i64 x.Page::us
def bIo(us:List AV):List AV:= .bool false:: .bool false:: .bool false:: .int .i64 (0:Int)::us
def bLb(x:DCore)(us:List AV):List AV:= .int .i64 x.Pc:: .int .i64 x.Root:: .int .i64 x.Vector:: .int .i64 x.Saved:: .bool x.SavedUser:: .int .i64 x.Cause:: .int .i64 x.Bad:: .int .i64 x.Timer:: .bool x.Waits:: .bool x.User:: .bool x.On:: .bool x.Stopped::us
def bKq(us:List AV):List AV:= .int .i64 (0:Int):: .int .i64 (0:Int):: .int .i64 (0:Int):: .int .i64 (0:Int):: .bool false:: .int .i64 (0:Int):: .int .i64 (0:Int):: .int .i64 (0:Int):: .bool false:: .bool false:: .bool false:: .bool false::us
theorem rz{ρ:Nat->Option Nat}{n:Nat}{vs us:List AV}(h:Rens ρ n vs us:=by repeat first|exact fO|refine bJc ?_|refine bIw ?_|refine aW bGa ?_|refine aW (mF ?_) ?_|refine aW (aFa dd rfl) ?_|refine aW tA ?_|refine aW (aQz dd rfl rfl) ?_|refine aW (bW (aN (aB zR))) ?_|refine aW (bW (aN (aB wJ))) ?_|refine aW (bW (aN (aB aEz))) ?_|refine aW (bW (aN (aB aFj))) ?_|refine aW (bW (aN (aB aEt))) ?_|refine aW (bW (aN (aB aEs))) ?_|refine aW (bW (aN (aB aEo))) ?_|refine aW (bW (aN (aB aEv))) ?_|refine aW (bW (aN (aB zF))) ?_|refine aW (bW (aN (aB aBj))) ?_|refine aW (bW (aN (aB aAt))) ?_|refine aW (bW (aN (aB sB))) ?_|refine aW (bW (aN (aB hM))) ?_|refine aW (bW (aN (aB zW))) ?_|refine aW (bW (aN (aB wE))) ?_|refine aW (bW (aN (aB aFd))) ?_|refine aW (bW (aN (aB aFi))) ?_|refine aW (bW (aN (aB aEy))) ?_|refine aW (bW (aN (aB aEm))) ?_|refine aW (bW (aN (aB nY))) ?_|refine aW (bW (aN (aB bE))) ?_|refine aW (bW (aN (aB aXo))) ?_):Rens ρ n vs us:=h
theorem nrr{p:Prop}(h:p:=by simp only[bKc,bLh,bLb,bIo,mT,bKq,AV.noRef,aH,AV.noBor,aO,Bool.and_self,aB zR,aB wJ,aB aEz,aB aFj,aB aEt,aB aEs,aB aEo,aB aEv,aB zF,aB aBj,aB aAt,aB sB,aB hM,aB zW,aB wE,aB aFd,aB aFi,aB aEy,aB aEm,aB nY,aB bE,aB aXo,zR,wJ,aEz,aFj,aEt,aEs,aEo,aEv,zF,aBj,aAt,sB,hM,zW,wE,aFd,aFi,aEy,aEm,nY,bH aOa,bH aRa,bH aHz,bH aKw,bH aPm,bH aPe,bH aVo,bH aTh,bH aUm,bH aUb,bH aTs,bH xI,bH bKb,aOa,aRa,aHz,aKw,aPm,aPe,aVo,aTh,aUm,aUb,aTs]):p:=h
abbrev zc0:List AV:=[bb false,.nil,ii 0,ii 0,ii 0,ii 0,bb false,ii 0,ii 0,ii 0,bb false,bb false,bb false,bb false,.nil,.nil,.nil]
abbrev rI_3(x:List Int):Root:=⟨3,fl (eI .i64) x⟩
abbrev rC83(x:List DSlot):Root:=⟨83,fl eN x⟩
abbrev rO80(x:List DGuest):Root:=⟨80,fl kI x⟩
abbrev rB26(x:DHost):Root:=⟨26,rB x⟩
abbrev rB36(x:DBare):Root:=⟨36,nI x⟩
end Go.Proofs.Ytobbmlnagjhofaa
