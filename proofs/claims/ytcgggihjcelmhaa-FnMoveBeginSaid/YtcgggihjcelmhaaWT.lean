/- The types of the plain functions. Made by program. -/
import Derived.Test.YtcgggihjcelmhaaZY
import Derived.Test.YtcgggihjcelmhaaProg
namespace Go.Proofs.Ytcgggihjcelmhaa
open Go.RowKit
set_option maxRecDepth 100000
set_option linter.all false
set_option maxHeartbeats 0
noncomputable def rg:=bNy Try.prog
abbrev LW(k:Nat)(L:LFun):Prop:=gX Try.prog k=some L
structure DCore where
 Regs:List Int
 Pc:Int
 Root:Int
 Vector:Int
 Saved:Int
 SavedUser:Bool
 Cause:Int
 Bad:Int
 Timer:Int
 Waits:Bool
 User:Bool
 On:Bool
 Stopped:Bool
deriving Inhabited
structure DSlot where
 Frame:Int
 Write:Bool
 Dirty:Bool
deriving Inhabited
structure DGuest where
 Live:Bool
 C:DCore
 Pages:List DSlot
 In:List Int
 Out:List Int
deriving Inhabited
structure DHost where
 Words:List Int
 Guests:List DGuest
deriving Inhabited
structure DMove where
 From:DHost
 To:DHost
 G:Int
 N:Int
 Left:List Bool
deriving Inhabited
structure DBare where
 C:DCore
 Mem:List Int
 In:List Int
 Out:List Int
deriving Inhabited
structure DAct where
 Kind:Int
 Page:Int
deriving Inhabited
structure Dl20Rd where
 b:List Int
 p:Int
deriving Inhabited
structure DIns where
 Op:Int
 A:Int
 N:Int
deriving Inhabited
structure DShade where
 There:Bool
 Write:Bool
 User:Bool
 Page:Int
 Frame:Int
 Ready:Bool
deriving Inhabited
structure DEntry where
 There:Bool
 Write:Bool
 User:Bool
 Page:Int
deriving Inhabited
structure DExit where
 Why:Int
 Page:Int
 What:DIns
deriving Inhabited
def nQ(x:DBare):List AV:=[bo (eI .i64) x.C.Regs,.int .i64 x.C.Pc,.int .i64 x.C.Root,.int .i64 x.C.Vector,.int .i64 x.C.Saved,.bool x.C.SavedUser,.int .i64 x.C.Cause,.int .i64 x.C.Bad,.int .i64 x.C.Timer,.bool x.C.Waits,.bool x.C.User,.bool x.C.On,.bool x.C.Stopped,bo (eI .i64) x.Mem,bo (eI .i64) x.In,bo (eI .i64) x.Out]
theorem aUw:∀x,noOwn (nQ x)=true:=λ_=>rfl
theorem aLf:∀x,aQ (nQ x)=true:=λx=>by simp only[nQ,aQ,AV.clean,Bool.and_self,bG cV]
theorem aDt:∀x,aE (nQ x)=true:=λx=>by simp only[nQ,aE,AV.noRef,Bool.and_self,aB bU]
def aDf(x:DCore):List AV:=[bo (eI .i64) x.Regs,.int .i64 x.Pc,.int .i64 x.Root,.int .i64 x.Vector,.int .i64 x.Saved,.bool x.SavedUser,.int .i64 x.Cause,.int .i64 x.Bad,.int .i64 x.Timer,.bool x.Waits,.bool x.User,.bool x.On,.bool x.Stopped]
theorem aTz:∀x,noOwn (aDf x)=true:=λ_=>rfl
theorem aWi:∀x,aQ (aDf x)=true:=λx=>by simp only[aDf,aQ,AV.clean,Bool.and_self,bG cV]
theorem aDn:∀x,aE (aDf x)=true:=λx=>by simp only[aDf,aE,AV.noRef,Bool.and_self,aB bU]
def eW(x:DSlot):List AV:=[.int .i64 x.Frame,.bool x.Write,.bool x.Dirty]
theorem aAc:∀x,(eW x).length=3:=λ_=>rfl
theorem aDm:∀x,noOwn (eW x)=true:=λ_=>rfl
theorem xW:∀x,aQ (eW x)=true:=λ_=>rfl
theorem kF:∀x,aE (eW x)=true:=λ_=>rfl
theorem aLl:∀x,aN (eW x)=true:=λ_=>rfl
def fE(x:DGuest):List AV:=[.bool x.Live,bo (eI .i64) x.C.Regs,.int .i64 x.C.Pc,.int .i64 x.C.Root,.int .i64 x.C.Vector,.int .i64 x.C.Saved,.bool x.C.SavedUser,.int .i64 x.C.Cause,.int .i64 x.C.Bad,.int .i64 x.C.Timer,.bool x.C.Waits,.bool x.C.User,.bool x.C.On,.bool x.C.Stopped,bo eW x.Pages,bo (eI .i64) x.In,bo (eI .i64) x.Out]
theorem aPj:∀x,(fE x).length=17:=λ_=>rfl
theorem aWd:∀x,noOwn (fE x)=true:=λ_=>rfl
theorem xQ:∀x,aQ (fE x)=true:=λx=>by simp only[fE,aQ,AV.clean,Bool.and_self,bG cV,bG xW]
theorem uO:∀x,aE (fE x)=true:=λx=>by simp only[fE,aE,AV.noRef,Bool.and_self,aB bU,aB kF]
def gO(x:DHost):List AV:=[bo (eI .i64) x.Words,bo fE x.Guests]
theorem aWk:∀x,noOwn (gO x)=true:=λ_=>rfl
theorem uM:∀x,aQ (gO x)=true:=λx=>by simp only[gO,aQ,AV.clean,Bool.and_self,bG cV,bG xQ]
theorem aDl:∀x,aE (gO x)=true:=λx=>by simp only[gO,aE,AV.noRef,Bool.and_self,aB bU,aB uO]
def uE(x:DSlot):List AV:=[.int .i64 x.Frame,.bool x.Write,.bool x.Dirty]
theorem aNc:∀x,(uE x).length=3:=λ_=>rfl
theorem yY:∀x,noOwn (uE x)=true:=λ_=>rfl
theorem zQ:∀x,aQ (uE x)=true:=λ_=>rfl
theorem rJ:∀x,aE (uE x)=true:=λ_=>rfl
theorem aHf:∀x,aN (uE x)=true:=λ_=>rfl
def qJ(x:DGuest):List AV:=[.bool x.Live,bo (eI .i64) x.C.Regs,.int .i64 x.C.Pc,.int .i64 x.C.Root,.int .i64 x.C.Vector,.int .i64 x.C.Saved,.bool x.C.SavedUser,.int .i64 x.C.Cause,.int .i64 x.C.Bad,.int .i64 x.C.Timer,.bool x.C.Waits,.bool x.C.User,.bool x.C.On,.bool x.C.Stopped,bo uE x.Pages,bo (eI .i64) x.In,bo (eI .i64) x.Out]
theorem aQq:∀x,noOwn (qJ x)=true:=λ_=>rfl
theorem aAe:∀x,aQ (qJ x)=true:=λx=>by simp only[qJ,aQ,AV.clean,Bool.and_self,bG cV,bG zQ]
theorem rB:∀x,aE (qJ x)=true:=λx=>by simp only[qJ,aE,AV.noRef,Bool.and_self,aB bU,aB rJ]
def gN(x:DGuest):List AV:=[.bool x.Live,.own 3 1 (List.length x.C.Regs) (fl (eI .i64) x.C.Regs),.int .i64 x.C.Pc,.int .i64 x.C.Root,.int .i64 x.C.Vector,.int .i64 x.C.Saved,.bool x.C.SavedUser,.int .i64 x.C.Cause,.int .i64 x.C.Bad,.int .i64 x.C.Timer,.bool x.C.Waits,.bool x.C.User,.bool x.C.On,.bool x.C.Stopped,.own 66 3 (List.length x.Pages) (fl eW x.Pages),.own 3 1 (List.length x.In) (fl (eI .i64) x.In),.own 3 1 (List.length x.Out) (fl (eI .i64) x.Out)]
theorem aHo:∀x,(gN x).length=17:=λ_=>rfl
theorem kD:∀x,aE (gN x)=true:=λx=>by simp only[gN,aE,AV.noRef,Bool.and_self,aB bU,aB kF]
theorem aUk:∀x,aN (gN x)=true:=λx=>by simp only[gN,aN,AV.noBor,Bool.and_self,bE zW,bE aLl]
theorem aUo:kH gN fE:=λx H r π j h=>(aI (aC rfl) (aI (eT (e:=3) rfl cK dB cV (h 1 _ rfl)) (aI (aC rfl) (aI (aC rfl) (aI (aC rfl) (aI (aC rfl) (aI (aC rfl) (aI (aC rfl) (aI (aC rfl) (aI (aC rfl) (aI (aC rfl) (aI (aC rfl) (aI (aC rfl) (aI (aC rfl) (aI (eT (e:=66) rfl aAc aDm xW (h 14 _ rfl)) (aI (eT (e:=3) rfl cK dB cV (h 15 _ rfl)) (aI (eT (e:=3) rfl cK dB cV (h 16 _ rfl)) vO)))))))))))))))))
def aEd(x:DShade):List AV:=[.bool x.There,.bool x.Write,.bool x.User,.int .i64 x.Page,.int .i64 x.Frame,.bool x.Ready]
theorem aOm:∀x,noOwn (aEd x)=true:=λ_=>rfl
theorem aSg:∀x,aQ (aEd x)=true:=λ_=>rfl
theorem zX:∀x,aE (aEd x)=true:=λ_=>rfl
theorem aPy:∀x,aN (aEd x)=true:=λ_=>rfl
def aEf(x:DEntry):List AV:=[.bool x.There,.bool x.Write,.bool x.User,.int .i64 x.Page]
theorem aSk:∀x,noOwn (aEf x)=true:=λ_=>rfl
theorem aTa:∀x,aQ (aEf x)=true:=λ_=>rfl
theorem zD:∀x,aE (aEf x)=true:=λ_=>rfl
theorem aSi:∀x,aN (aEf x)=true:=λ_=>rfl
def aEa(x:DIns):List AV:=[.int .i64 x.Op,.int .i64 x.A,.int .i64 x.N]
theorem aQp:∀x,noOwn (aEa x)=true:=λ_=>rfl
theorem aPn:∀x,aQ (aEa x)=true:=λ_=>rfl
theorem yM:∀x,aE (aEa x)=true:=λ_=>rfl
theorem aSa:∀x,aN (aEa x)=true:=λ_=>rfl
def aDu(x:DExit):List AV:=[.int .i64 x.Why,.int .i64 x.Page,.int .i64 x.What.Op,.int .i64 x.What.A,.int .i64 x.What.N]
theorem aRh:∀x,noOwn (aDu x)=true:=λ_=>rfl
theorem aTb:∀x,aQ (aDu x)=true:=λ_=>rfl
theorem zB:∀x,aE (aDu x)=true:=λ_=>rfl
theorem aSq:∀x,aN (aDu x)=true:=λ_=>rfl
def aHd(x:DMove):List AV:=[bo (eI .i64) x.From.Words,bo fE x.From.Guests,bo (eI .i64) x.To.Words,bo fE x.To.Guests,.int .i64 x.G,.int .i64 x.N,bo eB x.Left]
theorem aWj:∀x,noOwn (aHd x)=true:=λ_=>rfl
theorem aUv:∀x,aQ (aHd x)=true:=λx=>by simp only[aHd,aQ,AV.clean,Bool.and_self,bG cV,bG xQ,bG aNr]
theorem aEb:∀x,aE (aHd x)=true:=λx=>by simp only[aHd,aE,AV.noRef,Bool.and_self,aB bU,aB uO,aB wP]
def aDs(x:DAct):List AV:=[.int .i64 x.Kind,.int .i64 x.Page]
theorem aPt:∀x,noOwn (aDs x)=true:=λ_=>rfl
theorem aOn:∀x,aQ (aDs x)=true:=λ_=>rfl
theorem yZ:∀x,aE (aDs x)=true:=λ_=>rfl
theorem aPu:∀x,aN (aDs x)=true:=λ_=>rfl
def wT(x:Dl20Rd):List AV:=[bo (eI .u8) x.b,.int .i64 x.p]
theorem aQm:∀x,noOwn (wT x)=true:=λ_=>rfl
theorem aRy:∀x,aQ (wT x)=true:=λx=>by simp only[wT,aQ,AV.clean,Bool.and_self,bG cV]
theorem zM:∀x,aE (wT x)=true:=λx=>by simp only[wT,aE,AV.noRef,Bool.and_self,aB bU]
def aFz(x:DHost):List AV:=[bo (eI .i64) x.Words,bo qJ x.Guests]
theorem aUf:∀x,noOwn (aFz x)=true:=λ_=>rfl
theorem aVn:∀x,aQ (aFz x)=true:=λx=>by simp only[aFz,aQ,AV.clean,Bool.and_self,bG cV,bG aAe]
theorem aEe:∀x,aE (aFz x)=true:=λx=>by simp only[aFz,aE,AV.noRef,Bool.and_self,aB bU,aB rB]
def aFu(x:DMove):List AV:=[bo (eI .i64) x.From.Words,bo qJ x.From.Guests,bo (eI .i64) x.To.Words,bo qJ x.To.Guests,.int .i64 x.G,.int .i64 x.N,bo eB x.Left]
theorem aWp:∀x,noOwn (aFu x)=true:=λ_=>rfl
theorem aVq:∀x,aQ (aFu x)=true:=λx=>by simp only[aFu,aQ,AV.clean,Bool.and_self,bG cV,bG aAe,bG aNr]
theorem aEj:∀x,aE (aFu x)=true:=λx=>by simp only[aFu,aE,AV.noRef,Bool.and_self,aB bU,aB rB,aB wP]
def wL(x:DCore):List AV:=[bo (eI .i64) x.Regs,.int .i64 x.Pc,.int .i64 x.Root,.int .i64 x.Vector,.int .i64 x.Saved,.bool x.SavedUser,.int .i64 x.Cause,.int .i64 x.Bad,.int .i64 x.Timer,.bool x.Waits,.bool x.User,.bool x.On,.bool x.Stopped]
theorem aRs:∀x,noOwn (wL x)=true:=λ_=>rfl
theorem aSm:∀x,aQ (wL x)=true:=λx=>by simp only[wL,aQ,AV.clean,Bool.and_self,bG cV]
theorem yN:∀x,aE (wL x)=true:=λx=>by simp only[wL,aE,AV.noRef,Bool.and_self,aB bU]
def aHn(x:DCore):List AV:=[.own 3 1 (List.length x.Regs) (fl (eI .i64) x.Regs),.int .i64 x.Pc,.int .i64 x.Root,.int .i64 x.Vector,.int .i64 x.Saved,.bool x.SavedUser,.int .i64 x.Cause,.int .i64 x.Bad,.int .i64 x.Timer,.bool x.Waits,.bool x.User,.bool x.On,.bool x.Stopped]
theorem aDx:∀x,aE (aHn x)=true:=λx=>by simp only[aHn,aE,AV.noRef,Bool.and_self,aB bU]
theorem aVj:∀x,aN (aHn x)=true:=λx=>by simp only[aHn,aN,AV.noBor,Bool.and_self,bE zW]
theorem bIh:kH aHn aDf:=λx H r π j h=>(aI (eT (e:=3) rfl cK dB cV (h 0 _ rfl)) (aI (aC rfl) (aI (aC rfl) (aI (aC rfl) (aI (aC rfl) (aI (aC rfl) (aI (aC rfl) (aI (aC rfl) (aI (aC rfl) (aI (aC rfl) (aI (aC rfl) (aI (aC rfl) (aI (aC rfl) vO)))))))))))))
def aGw(x:DBare):List AV:=[.own 3 1 (List.length x.C.Regs) (fl (eI .i64) x.C.Regs),.int .i64 x.C.Pc,.int .i64 x.C.Root,.int .i64 x.C.Vector,.int .i64 x.C.Saved,.bool x.C.SavedUser,.int .i64 x.C.Cause,.int .i64 x.C.Bad,.int .i64 x.C.Timer,.bool x.C.Waits,.bool x.C.User,.bool x.C.On,.bool x.C.Stopped,.own 3 1 (List.length x.Mem) (fl (eI .i64) x.Mem),.own 3 1 (List.length x.In) (fl (eI .i64) x.In),.own 3 1 (List.length x.Out) (fl (eI .i64) x.Out)]
theorem aEi:∀x,aE (aGw x)=true:=λx=>by simp only[aGw,aE,AV.noRef,Bool.and_self,aB bU]
theorem aUc:∀x,aN (aGw x)=true:=λx=>by simp only[aGw,aN,AV.noBor,Bool.and_self,bE zW]
theorem bHl:kH aGw nQ:=λx H r π j h=>(aI (eT (e:=3) rfl cK dB cV (h 0 _ rfl)) (aI (aC rfl) (aI (aC rfl) (aI (aC rfl) (aI (aC rfl) (aI (aC rfl) (aI (aC rfl) (aI (aC rfl) (aI (aC rfl) (aI (aC rfl) (aI (aC rfl) (aI (aC rfl) (aI (aC rfl) (aI (eT (e:=3) rfl cK dB cV (h 13 _ rfl)) (aI (eT (e:=3) rfl cK dB cV (h 14 _ rfl)) (aI (eT (e:=3) rfl cK dB cV (h 15 _ rfl)) vO))))))))))))))))
def aAh(x:Dl20Rd):List AV:=[.own 5 1 (List.length x.b) (fl (eI .u8) x.b),.int .i64 x.p]
theorem zO:∀x,aE (aAh x)=true:=λx=>by simp only[aAh,aE,AV.noRef,Bool.and_self,aB bU]
theorem aQs:∀x,aN (aAh x)=true:=λx=>by simp only[aAh,aN,AV.noBor,Bool.and_self,bE zW]
theorem bDj:kH aAh wT:=λx H r π j h=>(aI (eT (e:=5) rfl cK dB cV (h 0 _ rfl)) (aI (aC rfl) vO))
def zN(x:DCore):List AV:=[.own 3 1 (List.length x.Regs) (fl (eI .i64) x.Regs),.int .i64 x.Pc,.int .i64 x.Root,.int .i64 x.Vector,.int .i64 x.Saved,.bool x.SavedUser,.int .i64 x.Cause,.int .i64 x.Bad,.int .i64 x.Timer,.bool x.Waits,.bool x.User,.bool x.On,.bool x.Stopped]
theorem zZ:∀x,aE (zN x)=true:=λx=>by simp only[zN,aE,AV.noRef,Bool.and_self,aB bU]
theorem aRo:∀x,aN (zN x)=true:=λx=>by simp only[zN,aN,AV.noBor,Bool.and_self,bE zW]
theorem bDd:kH zN wL:=λx H r π j h=>(aI (eT (e:=3) rfl cK dB cV (h 0 _ rfl)) (aI (aC rfl) (aI (aC rfl) (aI (aC rfl) (aI (aC rfl) (aI (aC rfl) (aI (aC rfl) (aI (aC rfl) (aI (aC rfl) (aI (aC rfl) (aI (aC rfl) (aI (aC rfl) (aI (aC rfl) vO)))))))))))))
def rR(x:DGuest):List AV:=[.bool x.Live,.own 3 1 (List.length x.C.Regs) (fl (eI .i64) x.C.Regs),.int .i64 x.C.Pc,.int .i64 x.C.Root,.int .i64 x.C.Vector,.int .i64 x.C.Saved,.bool x.C.SavedUser,.int .i64 x.C.Cause,.int .i64 x.C.Bad,.int .i64 x.C.Timer,.bool x.C.Waits,.bool x.C.User,.bool x.C.On,.bool x.C.Stopped,.own 172 3 (List.length x.Pages) (fl uE x.Pages),.own 3 1 (List.length x.In) (fl (eI .i64) x.In),.own 3 1 (List.length x.Out) (fl (eI .i64) x.Out)]
theorem rG:∀x,aE (rR x)=true:=λx=>by simp only[rR,aE,AV.noRef,Bool.and_self,aB bU,aB rJ]
theorem aQo:∀x,aN (rR x)=true:=λx=>by simp only[rR,aN,AV.noBor,Bool.and_self,bE zW,bE aHf]
theorem bEv:kH rR qJ:=λx H r π j h=>(aI (aC rfl) (aI (eT (e:=3) rfl cK dB cV (h 1 _ rfl)) (aI (aC rfl) (aI (aC rfl) (aI (aC rfl) (aI (aC rfl) (aI (aC rfl) (aI (aC rfl) (aI (aC rfl) (aI (aC rfl) (aI (aC rfl) (aI (aC rfl) (aI (aC rfl) (aI (aC rfl) (aI (eT (e:=172) rfl aNc yY zQ (h 14 _ rfl)) (aI (eT (e:=3) rfl cK dB cV (h 15 _ rfl)) (aI (eT (e:=3) rfl cK dB cV (h 16 _ rfl)) vO)))))))))))))))))
def bOj(x:DCore)(us:List AV):List AV:= .int .i64 x.Pc:: .int .i64 x.Root:: .int .i64 x.Vector:: .int .i64 x.Saved:: .bool x.SavedUser:: .int .i64 x.Cause:: .int .i64 x.Bad:: .int .i64 x.Timer:: .bool x.Waits:: .bool x.User:: .bool x.On:: .bool x.Stopped::us
def nE(us:List AV):List AV:= .int .i64 (0:Int):: .int .i64 (0:Int):: .int .i64 (0:Int):: .int .i64 (0:Int):: .bool false:: .int .i64 (0:Int):: .int .i64 (0:Int):: .int .i64 (0:Int):: .bool false:: .bool false:: .bool false:: .bool false::us
def bMx(x:DShade)(us:List AV):List AV:= .bool x.There:: .bool x.Write:: .bool x.User:: .int .i64 x.Page:: .int .i64 x.Frame:: .bool x.Ready::us
def bJo(us:List AV):List AV:= .bool false:: .bool false:: .bool false:: .int .i64 (0:Int):: .int .i64 (0:Int):: .bool false::us
def bNm(x:DEntry)(us:List AV):List AV:= .bool x.There:: .bool x.Write:: .bool x.User:: .int .i64 x.Page::us
def bJv(us:List AV):List AV:= .bool false:: .bool false:: .bool false:: .int .i64 (0:Int)::us
def bMz(x:DCore)(us:List AV):List AV:= .int .i64 x.Pc:: .int .i64 x.Root:: .int .i64 x.Vector:: .int .i64 x.Saved:: .bool x.SavedUser:: .int .i64 x.Cause:: .int .i64 x.Bad:: .int .i64 x.Timer:: .bool x.Waits:: .bool x.User:: .bool x.On:: .bool x.Stopped::us
def bLv(us:List AV):List AV:= .int .i64 (0:Int):: .int .i64 (0:Int):: .int .i64 (0:Int):: .int .i64 (0:Int):: .bool false:: .int .i64 (0:Int):: .int .i64 (0:Int):: .int .i64 (0:Int):: .bool false:: .bool false:: .bool false:: .bool false::us
theorem rz{ρ:Nat->Option Nat}{n:Nat}{vs us:List AV}(h:Rens ρ n vs us:=by repeat first|exact fH|refine bKq ?_|refine bLt ?_|refine aT bHg ?_|refine aT (lM ?_) ?_|refine aT (aDy dd rfl) ?_|refine aT yD ?_|refine aT (aPf dd rfl rfl) ?_|refine aT (bJ (aL (aB zM))) ?_|refine aT (bJ (aL (aB yN))) ?_|refine aT (bJ (aL (aB rB))) ?_|refine aT (bJ (aL (aB aDl))) ?_|refine aT (bJ (aL (aB aEb))) ?_|refine aT (bJ (aL (aB aEe))) ?_|refine aT (bJ (aL (aB aEj))) ?_|refine aT (bJ (aL (aB aDn))) ?_|refine aT (bJ (aL (aB uO))) ?_|refine aT (bJ (aL (aB aDt))) ?_|refine aT (bJ (aL (aB yZ))) ?_|refine aT (bJ (aL (aB yM))) ?_|refine aT (bJ (aL (aB zX))) ?_|refine aT (bJ (aL (aB zD))) ?_|refine aT (bJ (aL (aB rJ))) ?_|refine aT (bJ (aL (aB zB))) ?_|refine aT (bJ (aL (aB kF))) ?_|refine aT (bJ (aL (aB zO))) ?_|refine aT (bJ (aL (aB zZ))) ?_|refine aT (bJ (aL (aB rG))) ?_|refine aT (bJ (aL (aB aDx))) ?_|refine aT (bJ (aL (aB kD))) ?_|refine aT (bJ (aL (aB aEi))) ?_|refine aT (bJ (aL (aB bU))) ?_|refine aT (bJ (aL (aB wP))) ?_):Rens ρ n vs us:=h
theorem nrr{p:Prop}(h:p:=by simp only[bMz,bMx,bNm,bOj,bLv,bJo,bJv,nE,AV.noRef,aE,AV.noBor,aN,Bool.and_self,aB zM,aB yN,aB rB,aB aDl,aB aEb,aB aEe,aB aEj,aB aDn,aB uO,aB aDt,aB yZ,aB yM,aB zX,aB zD,aB rJ,aB zB,aB kF,aB zO,aB zZ,aB rG,aB aDx,aB kD,aB aEi,aB bU,aB wP,zM,yN,rB,aDl,aEb,aEe,aEj,aDn,uO,aDt,yZ,yM,zX,zD,rJ,zB,kF,zO,zZ,rG,aDx,kD,aEi,bE aPu,bE aSa,bE aPy,bE aSi,bE aHf,bE aSq,bE aLl,bE aQs,bE aRo,bE aQo,bE aVj,bE aUk,bE aUc,bE zW,bE bNf,aPu,aSa,aPy,aSi,aHf,aSq,aLl,aQs,aRo,aQo,aVj,aUk,aUc]):p:=h
abbrev zc0:List AV:=[bb false,.nil,ii 0,ii 0,ii 0,ii 0,bb false,ii 0,ii 0,ii 0,bb false,bb false,bb false,bb false,.nil,.nil,.nil]
abbrev rI_3(x:List Int):Root:=⟨3,fl (eI .i64) x⟩
abbrev rC66(x:List DSlot):Root:=⟨66,fl eW x⟩
abbrev rO64(x:List DGuest):Root:=⟨64,fl gN x⟩
abbrev rB26(x:DHost):Root:=⟨26,gO x⟩
abbrev rT_4(x:List Bool):Root:=⟨4,fl eB x⟩
end Go.Proofs.Ytcgggihjcelmhaa
