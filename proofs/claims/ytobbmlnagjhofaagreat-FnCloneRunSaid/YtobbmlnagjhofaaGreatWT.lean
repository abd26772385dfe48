/- The types of the plain functions. Made by program. -/
import Derived.Test.YtobbmlnagjhofaaGreatZY
import Derived.Test.YtobbmlnagjhofaaGreatProg
namespace Go.Proofs.YtobbmlnagjhofaaGreat
open Go.RowKit
set_option maxRecDepth 100000
set_option linter.all false
set_option maxHeartbeats 0
noncomputable def rg:=bPm Tryz.prog
abbrev LW(k:Nat)(L:LFun):Prop:=iC Tryz.prog k=some L
structure DCore where
 Regs:List Int
 Pc:Int
 Root:Int
 Vector:Int
 Saved:Int
 SavedUser:Bool
 Cause:Int
 Bad:Int
 Timer:Int
 Waits:Bool
 User:Bool
 On:Bool
 Stopped:Bool
deriving Inhabited
structure DSlot where
 Frame:Int
 Write:Bool
 Dirty:Bool
deriving Inhabited
structure DGuest where
 Live:Bool
 C:DCore
 Pages:List DSlot
 In:List Int
 Out:List Int
deriving Inhabited
structure DHost where
 Words:List Int
 Guests:List DGuest
deriving Inhabited
structure DBare where
 C:DCore
 Mem:List Int
 In:List Int
 Out:List Int
deriving Inhabited
structure Dl20Rd where
 b:List Int
 p:Int
deriving Inhabited
structure DIns where
 Op:Int
 A:Int
 N:Int
deriving Inhabited
structure DExit where
 Why:Int
 Page:Int
 What:DIns
deriving Inhabited
structure DEntry where
 There:Bool
 Write:Bool
 User:Bool
 Page:Int
deriving Inhabited
structure DShade where
 There:Bool
 Write:Bool
 User:Bool
 Page:Int
 Frame:Int
 Ready:Bool
deriving Inhabited
def aEh(x:DBare):List AV:=[bo (eI .i64) x.C.Regs,.int .i64 x.C.Pc,.int .i64 x.C.Root,.int .i64 x.C.Vector,.int .i64 x.C.Saved,.bool x.C.SavedUser,.int .i64 x.C.Cause,.int .i64 x.C.Bad,.int .i64 x.C.Timer,.bool x.C.Waits,.bool x.C.User,.bool x.C.On,.bool x.C.Stopped,bo (eI .i64) x.Mem,bo (eI .i64) x.In,bo (eI .i64) x.Out]
theorem aXg:∀x,noOwn (aEh x)=true:=λ_=>rfl
theorem aVf:∀x,aU (aEh x)=true:=λx=>by simp only[aEh,aU,AV.clean,Bool.and_self,eA fK]
theorem aEo:∀x,aH (aEh x)=true:=λx=>by simp only[aEh,aH,AV.noRef,Bool.and_self,aD cK]
def aCr(x:DCore):List AV:=[bo (eI .i64) x.Regs,.int .i64 x.Pc,.int .i64 x.Root,.int .i64 x.Vector,.int .i64 x.Saved,.bool x.SavedUser,.int .i64 x.Cause,.int .i64 x.Bad,.int .i64 x.Timer,.bool x.Waits,.bool x.User,.bool x.On,.bool x.Stopped]
theorem aXp:∀x,noOwn (aCr x)=true:=λ_=>rfl
theorem aXy:∀x,aU (aCr x)=true:=λx=>by simp only[aCr,aU,AV.clean,Bool.and_self,eA fK]
theorem aFo:∀x,aH (aCr x)=true:=λx=>by simp only[aCr,aH,AV.noRef,Bool.and_self,aD cK]
def hC(x:DSlot):List AV:=[.int .i64 x.Frame,.bool x.Write,.bool x.Dirty]
theorem qT:∀x,(hC x).length=3:=λ_=>rfl
theorem aEy:∀x,noOwn (hC x)=true:=λ_=>rfl
theorem aEl:∀x,aU (hC x)=true:=λ_=>rfl
theorem mF:∀x,aH (hC x)=true:=λ_=>rfl
theorem aMh:∀x,aM (hC x)=true:=λ_=>rfl
def qI(x:DGuest):List AV:=[.bool x.Live,bo (eI .i64) x.C.Regs,.int .i64 x.C.Pc,.int .i64 x.C.Root,.int .i64 x.C.Vector,.int .i64 x.C.Saved,.bool x.C.SavedUser,.int .i64 x.C.Cause,.int .i64 x.C.Bad,.int .i64 x.C.Timer,.bool x.C.Waits,.bool x.C.User,.bool x.C.On,.bool x.C.Stopped,bo hC x.Pages,bo (eI .i64) x.In,bo (eI .i64) x.Out]
theorem aSl:∀x,(qI x).length=17:=λ_=>rfl
theorem aXs:∀x,noOwn (qI x)=true:=λ_=>rfl
theorem aMg:∀x,aU (qI x)=true:=λx=>by simp only[qI,aU,AV.clean,Bool.and_self,eA fK,eA aEl]
theorem zA:∀x,aH (qI x)=true:=λx=>by simp only[qI,aH,AV.noRef,Bool.and_self,aD cK,aD mF]
def sW(x:DHost):List AV:=[bo (eI .i64) x.Words,bo qI x.Guests]
theorem aWs:∀x,noOwn (sW x)=true:=λ_=>rfl
theorem aMt:∀x,aU (sW x)=true:=λx=>by simp only[sW,aU,AV.clean,Bool.and_self,eA fK,eA aMg]
theorem aFe:∀x,aH (sW x)=true:=λx=>by simp only[sW,aH,AV.noRef,Bool.and_self,aD cK,aD zA]
def lJ(x:DGuest):List AV:=[.bool x.Live,.own 3 1 (List.length x.C.Regs) (fl (eI .i64) x.C.Regs),.int .i64 x.C.Pc,.int .i64 x.C.Root,.int .i64 x.C.Vector,.int .i64 x.C.Saved,.bool x.C.SavedUser,.int .i64 x.C.Cause,.int .i64 x.C.Bad,.int .i64 x.C.Timer,.bool x.C.Waits,.bool x.C.User,.bool x.C.On,.bool x.C.Stopped,.own 59 3 (List.length x.Pages) (fl hC x.Pages),.own 3 1 (List.length x.In) (fl (eI .i64) x.In),.own 3 1 (List.length x.Out) (fl (eI .i64) x.Out)]
theorem aHk:∀x,(lJ x).length=17:=λ_=>rfl
theorem rC:∀x,aH (lJ x)=true:=λx=>by simp only[lJ,aH,AV.noRef,Bool.and_self,aD cK,aD mF]
theorem aWr:∀x,aM (lJ x)=true:=λx=>by simp only[lJ,aM,AV.noBor,Bool.and_self,bX aJr,bX aMh]
theorem bKp:nS lJ qI:=λx H r π j h=>(aV (aN rfl) (aV (jM (e:=3) rfl dJ fJ fK (h 1 _ rfl)) (aV (aN rfl) (aV (aN rfl) (aV (aN rfl) (aV (aN rfl) (aV (aN rfl) (aV (aN rfl) (aV (aN rfl) (aV (aN rfl) (aV (aN rfl) (aV (aN rfl) (aV (aN rfl) (aV (aN rfl) (aV (jM (e:=59) rfl qT aEy aEl (h 14 _ rfl)) (aV (jM (e:=3) rfl dJ fJ fK (h 15 _ rfl)) (aV (jM (e:=3) rfl dJ fJ fK (h 16 _ rfl)) aLf)))))))))))))))))
def aEr(x:DEntry):List AV:=[.bool x.There,.bool x.Write,.bool x.User,.int .i64 x.Page]
theorem aTo:∀x,noOwn (aEr x)=true:=λ_=>rfl
theorem aTm:∀x,aU (aEr x)=true:=λ_=>rfl
theorem aBl:∀x,aH (aEr x)=true:=λ_=>rfl
theorem aTq:∀x,aM (aEr x)=true:=λ_=>rfl
def aMc(x:DIns):List AV:=[.int .i64 x.Op,.int .i64 x.A,.int .i64 x.N]
theorem aVs:∀x,noOwn (aMc x)=true:=λ_=>rfl
theorem aWu:∀x,aU (aMc x)=true:=λ_=>rfl
theorem aEs:∀x,aH (aMc x)=true:=λ_=>rfl
theorem aWi:∀x,aM (aMc x)=true:=λ_=>rfl
def aFl(x:DShade):List AV:=[.bool x.There,.bool x.Write,.bool x.User,.int .i64 x.Page,.int .i64 x.Frame,.bool x.Ready]
theorem aPq:∀x,noOwn (aFl x)=true:=λ_=>rfl
theorem aRu:∀x,aU (aFl x)=true:=λ_=>rfl
theorem aAy:∀x,aH (aFl x)=true:=λ_=>rfl
theorem aTx:∀x,aM (aFl x)=true:=λ_=>rfl
def aMb(x:DExit):List AV:=[.int .i64 x.Why,.int .i64 x.Page,.int .i64 x.What.Op,.int .i64 x.What.A,.int .i64 x.What.N]
theorem aVq:∀x,noOwn (aMb x)=true:=λ_=>rfl
theorem aXl:∀x,aU (aMb x)=true:=λ_=>rfl
theorem aEq:∀x,aH (aMb x)=true:=λ_=>rfl
theorem aVa:∀x,aM (aMb x)=true:=λ_=>rfl
def aDz(x:Dl20Rd):List AV:=[bo (eI .u8) x.b,.int .i64 x.p]
theorem aWd:∀x,noOwn (aDz x)=true:=λ_=>rfl
theorem aVr:∀x,aU (aDz x)=true:=λx=>by simp only[aDz,aU,AV.clean,Bool.and_self,eA fK]
theorem aFg:∀x,aH (aDz x)=true:=λx=>by simp only[aDz,aH,AV.noRef,Bool.and_self,aD cK]
def aIf(x:DCore):List AV:=[.own 3 1 (List.length x.Regs) (fl (eI .i64) x.Regs),.int .i64 x.Pc,.int .i64 x.Root,.int .i64 x.Vector,.int .i64 x.Saved,.bool x.SavedUser,.int .i64 x.Cause,.int .i64 x.Bad,.int .i64 x.Timer,.bool x.Waits,.bool x.User,.bool x.On,.bool x.Stopped]
theorem aEz:∀x,aH (aIf x)=true:=λx=>by simp only[aIf,aH,AV.noRef,Bool.and_self,aD cK]
theorem aXf:∀x,aM (aIf x)=true:=λx=>by simp only[aIf,aM,AV.noBor,Bool.and_self,bX aJr]
theorem bKk:nS aIf aCr:=λx H r π j h=>(aV (jM (e:=3) rfl dJ fJ fK (h 0 _ rfl)) (aV (aN rfl) (aV (aN rfl) (aV (aN rfl) (aV (aN rfl) (aV (aN rfl) (aV (aN rfl) (aV (aN rfl) (aV (aN rfl) (aV (aN rfl) (aV (aN rfl) (aV (aN rfl) (aV (aN rfl) aLf)))))))))))))
def aIi(x:DBare):List AV:=[.own 3 1 (List.length x.C.Regs) (fl (eI .i64) x.C.Regs),.int .i64 x.C.Pc,.int .i64 x.C.Root,.int .i64 x.C.Vector,.int .i64 x.C.Saved,.bool x.C.SavedUser,.int .i64 x.C.Cause,.int .i64 x.C.Bad,.int .i64 x.C.Timer,.bool x.C.Waits,.bool x.C.User,.bool x.C.On,.bool x.C.Stopped,.own 3 1 (List.length x.Mem) (fl (eI .i64) x.Mem),.own 3 1 (List.length x.In) (fl (eI .i64) x.In),.own 3 1 (List.length x.Out) (fl (eI .i64) x.Out)]
theorem aEn:∀x,aH (aIi x)=true:=λx=>by simp only[aIi,aH,AV.noRef,Bool.and_self,aD cK]
theorem aVd:∀x,aM (aIi x)=true:=λx=>by simp only[aIi,aM,AV.noBor,Bool.and_self,bX aJr]
theorem bJa:nS aIi aEh:=λx H r π j h=>(aV (jM (e:=3) rfl dJ fJ fK (h 0 _ rfl)) (aV (aN rfl) (aV (aN rfl) (aV (aN rfl) (aV (aN rfl) (aV (aN rfl) (aV (aN rfl) (aV (aN rfl) (aV (aN rfl) (aV (aN rfl) (aV (aN rfl) (aV (aN rfl) (aV (aN rfl) (aV (jM (e:=3) rfl dJ fJ fK (h 13 _ rfl)) (aV (jM (e:=3) rfl dJ fJ fK (h 14 _ rfl)) (aV (jM (e:=3) rfl dJ fJ fK (h 15 _ rfl)) aLf))))))))))))))))
def aIw(x:Dl20Rd):List AV:=[.own 5 1 (List.length x.b) (fl (eI .u8) x.b),.int .i64 x.p]
theorem aEw:∀x,aH (aIw x)=true:=λx=>by simp only[aIw,aH,AV.noRef,Bool.and_self,aD cK]
theorem aWz:∀x,aM (aIw x)=true:=λx=>by simp only[aIw,aM,AV.noBor,Bool.and_self,bX aJr]
theorem bKv:nS aIw aDz:=λx H r π j h=>(aV (jM (e:=5) rfl dJ fJ fK (h 0 _ rfl)) (aV (aN rfl) aLf))
def bQp(x:DCore)(us:List AV):List AV:= .int .i64 x.Pc:: .int .i64 x.Root:: .int .i64 x.Vector:: .int .i64 x.Saved:: .bool x.SavedUser:: .int .i64 x.Cause:: .int .i64 x.Bad:: .int .i64 x.Timer:: .bool x.Waits:: .bool x.User:: .bool x.On:: .bool x.Stopped::us
def aBm(us:List AV):List AV:= .int .i64 (0:Int):: .int .i64 (0:Int):: .int .i64 (0:Int):: .int .i64 (0:Int):: .bool false:: .int .i64 (0:Int):: .int .i64 (0:Int):: .int .i64 (0:Int):: .bool false:: .bool false:: .bool false:: .bool false::us
def bPf(x:DEntry)(us:List AV):List AV:= .bool x.There:: .bool x.Write:: .bool x.User:: .int .i64 x.Page::us
def bMv(us:List AV):List AV:= .bool false:: .bool false:: .bool false:: .int .i64 (0:Int)::us
def bOv(x:DShade)(us:List AV):List AV:= .bool x.There:: .bool x.Write:: .bool x.User:: .int .i64 x.Page:: .int .i64 x.Frame:: .bool x.Ready::us
def bLo(us:List AV):List AV:= .bool false:: .bool false:: .bool false:: .int .i64 (0:Int):: .int .i64 (0:Int):: .bool false::us
theorem rz{ρ:Nat->Option Nat}{n:Nat}{vs us:List AV}(h:Rens ρ n vs us:=by repeat first|exact fL|refine bMr ?_|refine bMx ?_|refine aX bIu ?_|refine aX (kR ?_) ?_|refine aX (aFm dd rfl) ?_|refine aX zM ?_|refine aX (aTw dd rfl rfl) ?_|refine aX (cJ (aR (aD aFe))) ?_|refine aX (cJ (aR (aD aFo))) ?_|refine aX (cJ (aR (aD zA))) ?_|refine aX (cJ (aR (aD aEo))) ?_|refine aX (cJ (aR (aD aFg))) ?_|refine aX (cJ (aR (aD aBl))) ?_|refine aX (cJ (aR (aD aAy))) ?_|refine aX (cJ (aR (aD mF))) ?_|refine aX (cJ (aR (aD aEs))) ?_|refine aX (cJ (aR (aD aEq))) ?_|refine aX (cJ (aR (aD aEz))) ?_|refine aX (cJ (aR (aD rC))) ?_|refine aX (cJ (aR (aD aEn))) ?_|refine aX (cJ (aR (aD aEw))) ?_|refine aX (cJ (aR (aD cK))) ?_|refine aX (cJ (aR (aD bAq))) ?_):Rens ρ n vs us:=h
theorem nrr{p:Prop}(h:p:=by simp only[bPf,bOv,bQp,bMv,bLo,aBm,AV.noRef,aH,AV.noBor,aM,Bool.and_self,aD aFe,aD aFo,aD zA,aD aEo,aD aFg,aD aBl,aD aAy,aD mF,aD aEs,aD aEq,aD aEz,aD rC,aD aEn,aD aEw,aD cK,aD bAq,aFe,aFo,zA,aEo,aFg,aBl,aAy,mF,aEs,aEq,aEz,rC,aEn,aEw,bX aTq,bX aTx,bX aMh,bX aWi,bX aVa,bX aXf,bX aWr,bX aVd,bX aWz,bX aJr,bX bOr,aTq,aTx,aMh,aWi,aVa,aXf,aWr,aVd,aWz]):p:=h
abbrev zc0:List AV:=[bb false,.nil,ii 0,ii 0,ii 0,ii 0,bb false,ii 0,ii 0,ii 0,bb false,bb false,bb false,bb false,.nil,.nil,.nil]
abbrev rO39(x:List DGuest):Root:=⟨39,fl lJ x⟩
abbrev rI_3(x:List Int):Root:=⟨3,fl (eI .i64) x⟩
abbrev rB26(x:DHost):Root:=⟨26,sW x⟩
end Go.Proofs.YtobbmlnagjhofaaGreat
