/- The types of the typed machine. Made by program. -/
import Derived.Test.YtkjabgefacfpfaaGreatWT5
import Derived.Test.YtkjabgefacfpfaaGreatDE
import Derived.Test.YtkjabgefacfpfaaGreatProg
namespace Go.Proofs.YtkjabgefacfpfaaGreat
open Go.RowKit
set_option maxRecDepth 100000
set_option linter.all false
set_option maxHeartbeats 0
inductive TyK where
 |k3
 |k4
 |k5
 |k26
 |k35
 |k38
 |k47
 |k53
 |k56
 |k89
 |k103
 |k114
 |k118
 |k129
 |k139
 |k148
 |k151
 |k184
 |k1035
 |k1038
 |k1047
 |k1118
 |k1148
 |k1151
 |k2026
 |k2056
def kk:Nat->TyK
 |3=> .k3
 |4=> .k4
 |5=> .k5
 |26=> .k26
 |35=> .k35
 |38=> .k38
 |47=> .k47
 |53=> .k53
 |56=> .k56
 |89=> .k89
 |103=> .k103
 |114=> .k114
 |118=> .k118
 |129=> .k129
 |139=> .k139
 |148=> .k148
 |151=> .k151
 |184=> .k184
 |1035=> .k1035
 |1038=> .k1038
 |1047=> .k1047
 |1118=> .k1118
 |1148=> .k1148
 |1151=> .k1151
 |2026=> .k2026
 |2056=> .k2056
 |_=> .k3
def TyT:TyK->Type
 | .k3=>Int
 | .k4=>Bool
 | .k5=>Int
 | .k26=>DHost
 | .k35=>DCore
 | .k38=>DGuest
 | .k47=>DBare
 | .k53=>DSlot
 | .k56=>DHost
 | .k89=>DIns
 | .k103=>DShade
 | .k114=>DLine
 | .k118=>Dl20Rd
 | .k129=>DExit
 | .k139=>DEntry
 | .k148=>DCore
 | .k151=>DGuest
 | .k184=>DSlot
 | .k1035=>DCore
 | .k1038=>DGuest
 | .k1047=>DBare
 | .k1118=>Dl20Rd
 | .k1148=>DCore
 | .k1151=>DGuest
 | .k2026=>DHost
 | .k2056=>DHost
@[reducible] def inK : ∀ k, Inhabited (TyT k)
 | .k3=>⟨(default:Int)⟩
 | .k4=>⟨(default:Bool)⟩
 | .k5=>⟨(default:Int)⟩
 | .k26=>⟨(default:DHost)⟩
 | .k35=>⟨(default:DCore)⟩
 | .k38=>⟨(default:DGuest)⟩
 | .k47=>⟨(default:DBare)⟩
 | .k53=>⟨(default:DSlot)⟩
 | .k56=>⟨(default:DHost)⟩
 | .k89=>⟨(default:DIns)⟩
 | .k103=>⟨(default:DShade)⟩
 | .k114=>⟨(default:DLine)⟩
 | .k118=>⟨(default:Dl20Rd)⟩
 | .k129=>⟨(default:DExit)⟩
 | .k139=>⟨(default:DEntry)⟩
 | .k148=>⟨(default:DCore)⟩
 | .k151=>⟨(default:DGuest)⟩
 | .k184=>⟨(default:DSlot)⟩
 | .k1035=>⟨(default:DCore)⟩
 | .k1038=>⟨(default:DGuest)⟩
 | .k1047=>⟨(default:DBare)⟩
 | .k1118=>⟨(default:Dl20Rd)⟩
 | .k1148=>⟨(default:DCore)⟩
 | .k1151=>⟨(default:DGuest)⟩
 | .k2026=>⟨(default:DHost)⟩
 | .k2056=>⟨(default:DHost)⟩
def lfK:TyK->List Lf
 | .k3=>[.i .i64]
 | .k4=>[.b]
 | .k5=>[.i .u8]
 | .k26=>[.row 3,.row 38]
 | .k35=>[.row 3,.i .i64,.i .i64,.i .i64,.i .i64,.b,.i .i64,.i .i64,.i .i64,.b,.b,.b,.b]
 | .k38=>[.b,.row 3,.i .i64,.i .i64,.i .i64,.i .i64,.b,.i .i64,.i .i64,.i .i64,.b,.b,.b,.b,.row 53,.row 3,.row 3]
 | .k47=>[.row 3,.i .i64,.i .i64,.i .i64,.i .i64,.b,.i .i64,.i .i64,.i .i64,.b,.b,.b,.b,.row 3,.row 3,.row 3]
 | .k53=>[.i .i64,.b,.b]
 | .k56=>[.row 3,.row 151]
 | .k89=>[.i .i64,.i .i64,.i .i64]
 | .k103=>[.b,.b,.b,.i .i64,.i .i64,.b]
 | .k114=>[.i .i64,.i .i64,.b,.b,.b,.i .i64,.i .i64,.b]
 | .k118=>[.row 5,.i .i64]
 | .k129=>[.i .i64,.i .i64,.i .i64,.i .i64,.i .i64]
 | .k139=>[.b,.b,.b,.i .i64]
 | .k148=>[.row 3,.i .i64,.i .i64,.i .i64,.i .i64,.b,.i .i64,.i .i64,.i .i64,.b,.b,.b,.b]
 | .k151=>[.b,.row 3,.i .i64,.i .i64,.i .i64,.i .i64,.b,.i .i64,.i .i64,.i .i64,.b,.b,.b,.b,.row 184,.row 3,.row 3]
 | .k184=>[.i .i64,.b,.b]
 | .k1035=>[.own 3,.i .i64,.i .i64,.i .i64,.i .i64,.b,.i .i64,.i .i64,.i .i64,.b,.b,.b,.b]
 | .k1038=>[.b,.own 3,.i .i64,.i .i64,.i .i64,.i .i64,.b,.i .i64,.i .i64,.i .i64,.b,.b,.b,.b,.own 53,.own 3,.own 3]
 | .k1047=>[.own 3,.i .i64,.i .i64,.i .i64,.i .i64,.b,.i .i64,.i .i64,.i .i64,.b,.b,.b,.b,.own 3,.own 3,.own 3]
 | .k1118=>[.own 5,.i .i64]
 | .k1148=>[.own 3,.i .i64,.i .i64,.i .i64,.i .i64,.b,.i .i64,.i .i64,.i .i64,.b,.b,.b,.b]
 | .k1151=>[.b,.own 3,.i .i64,.i .i64,.i .i64,.i .i64,.b,.i .i64,.i .i64,.i .i64,.b,.b,.b,.b,.own 184,.own 3,.own 3]
 | .k2026=>[.row 3,.row 1038]
 | .k2056=>[.row 3,.row 1151]
def unK:TyK->Nat
 | .k3=>3
 | .k4=>4
 | .k5=>5
 | .k26=>26
 | .k35=>35
 | .k38=>38
 | .k47=>47
 | .k53=>53
 | .k56=>56
 | .k89=>89
 | .k103=>103
 | .k114=>114
 | .k118=>118
 | .k129=>129
 | .k139=>139
 | .k148=>148
 | .k151=>151
 | .k184=>184
 | .k1035=>35
 | .k1038=>38
 | .k1047=>47
 | .k1118=>118
 | .k1148=>148
 | .k1151=>151
 | .k2026=>26
 | .k2056=>56
theorem tuK:∀k,TyT k=TyT (kk (unK k))
 | .k3=>rfl
 | .k4=>rfl
 | .k5=>rfl
 | .k26=>rfl
 | .k35=>rfl
 | .k38=>rfl
 | .k47=>rfl
 | .k53=>rfl
 | .k56=>rfl
 | .k89=>rfl
 | .k103=>rfl
 | .k114=>rfl
 | .k118=>rfl
 | .k129=>rfl
 | .k139=>rfl
 | .k148=>rfl
 | .k151=>rfl
 | .k184=>rfl
 | .k1035=>rfl
 | .k1038=>rfl
 | .k1047=>rfl
 | .k1118=>rfl
 | .k1148=>rfl
 | .k1151=>rfl
 | .k2026=>rfl
 | .k2056=>rfl
def plK:TyK->Bool
 | .k3=>true
 | .k4=>true
 | .k5=>true
 | .k26=>true
 | .k35=>true
 | .k38=>true
 | .k47=>true
 | .k53=>true
 | .k56=>true
 | .k89=>true
 | .k103=>true
 | .k114=>true
 | .k118=>true
 | .k129=>true
 | .k139=>true
 | .k148=>true
 | .k151=>true
 | .k184=>true
 | .k1035=>false
 | .k1038=>false
 | .k1047=>false
 | .k1118=>false
 | .k1148=>false
 | .k1151=>false
 | .k2026=>false
 | .k2056=>false
def elK:TyK->Bool
 | .k3=>true
 | .k4=>true
 | .k5=>true
 | .k26=>true
 | .k35=>true
 | .k38=>true
 | .k47=>true
 | .k53=>true
 | .k56=>true
 | .k89=>true
 | .k103=>true
 | .k114=>true
 | .k118=>true
 | .k129=>true
 | .k139=>true
 | .k148=>true
 | .k151=>true
 | .k184=>true
 | .k1035=>true
 | .k1038=>true
 | .k1047=>true
 | .k1118=>true
 | .k1148=>true
 | .k1151=>true
 | .k2026=>false
 | .k2056=>false
def tG:TS:=⟨λc=>TyT (kk c),λc=>inK (kk c),λc=>c%1000,λc=>lfK (kk c),λc=>unK (kk c),λc=>c+1000,λc=>tuK (kk c),λc=>plK (kk c),λc=>elK (kk c)⟩
def prK:∀k,TyT k->Tup tG (lfK k)
 | .k3,x=>(x:Int)
 | .k4,x=>(x:Bool)
 | .k5,x=>(x:Int)
 | .k26,x=>((x:DHost).Words,(x:DHost).Guests)
 | .k35,x=>((x:DCore).Regs,(x:DCore).Pc,(x:DCore).Root,(x:DCore).Vector,(x:DCore).Saved,(x:DCore).SavedUser,(x:DCore).Cause,(x:DCore).Bad,(x:DCore).Timer,(x:DCore).Waits,(x:DCore).User,(x:DCore).On,(x:DCore).Stopped)
 | .k38,x=>((x:DGuest).Live,(x:DGuest).C.Regs,(x:DGuest).C.Pc,(x:DGuest).C.Root,(x:DGuest).C.Vector,(x:DGuest).C.Saved,(x:DGuest).C.SavedUser,(x:DGuest).C.Cause,(x:DGuest).C.Bad,(x:DGuest).C.Timer,(x:DGuest).C.Waits,(x:DGuest).C.User,(x:DGuest).C.On,(x:DGuest).C.Stopped,(x:DGuest).Pages,(x:DGuest).In,(x:DGuest).Out)
 | .k47,x=>((x:DBare).C.Regs,(x:DBare).C.Pc,(x:DBare).C.Root,(x:DBare).C.Vector,(x:DBare).C.Saved,(x:DBare).C.SavedUser,(x:DBare).C.Cause,(x:DBare).C.Bad,(x:DBare).C.Timer,(x:DBare).C.Waits,(x:DBare).C.User,(x:DBare).C.On,(x:DBare).C.Stopped,(x:DBare).Mem,(x:DBare).In,(x:DBare).Out)
 | .k53,x=>((x:DSlot).Frame,(x:DSlot).Write,(x:DSlot).Dirty)
 | .k56,x=>((x:DHost).Words,(x:DHost).Guests)
 | .k89,x=>((x:DIns).Op,(x:DIns).A,(x:DIns).N)
 | .k103,x=>((x:DShade).There,(x:DShade).Write,(x:DShade).User,(x:DShade).Page,(x:DShade).Frame,(x:DShade).Ready)
 | .k114,x=>((x:DLine).Tag,(x:DLine).At,(x:DLine).What.There,(x:DLine).What.Write,(x:DLine).What.User,(x:DLine).What.Page,(x:DLine).What.Frame,(x:DLine).What.Ready)
 | .k118,x=>((x:Dl20Rd).b,(x:Dl20Rd).p)
 | .k129,x=>((x:DExit).Why,(x:DExit).Page,(x:DExit).What.Op,(x:DExit).What.A,(x:DExit).What.N)
 | .k139,x=>((x:DEntry).There,(x:DEntry).Write,(x:DEntry).User,(x:DEntry).Page)
 | .k148,x=>((x:DCore).Regs,(x:DCore).Pc,(x:DCore).Root,(x:DCore).Vector,(x:DCore).Saved,(x:DCore).SavedUser,(x:DCore).Cause,(x:DCore).Bad,(x:DCore).Timer,(x:DCore).Waits,(x:DCore).User,(x:DCore).On,(x:DCore).Stopped)
 | .k151,x=>((x:DGuest).Live,(x:DGuest).C.Regs,(x:DGuest).C.Pc,(x:DGuest).C.Root,(x:DGuest).C.Vector,(x:DGuest).C.Saved,(x:DGuest).C.SavedUser,(x:DGuest).C.Cause,(x:DGuest).C.Bad,(x:DGuest).C.Timer,(x:DGuest).C.Waits,(x:DGuest).C.User,(x:DGuest).C.On,(x:DGuest).C.Stopped,(x:DGuest).Pages,(x:DGuest).In,(x:DGuest).Out)
 | .k184,x=>((x:DSlot).Frame,(x:DSlot).Write,(x:DSlot).Dirty)
 | .k1035,x=>((x:DCore).Regs,(x:DCore).Pc,(x:DCore).Root,(x:DCore).Vector,(x:DCore).Saved,(x:DCore).SavedUser,(x:DCore).Cause,(x:DCore).Bad,(x:DCore).Timer,(x:DCore).Waits,(x:DCore).User,(x:DCore).On,(x:DCore).Stopped)
 | .k1038,x=>((x:DGuest).Live,(x:DGuest).C.Regs,(x:DGuest).C.Pc,(x:DGuest).C.Root,(x:DGuest).C.Vector,(x:DGuest).C.Saved,(x:DGuest).C.SavedUser,(x:DGuest).C.Cause,(x:DGuest).C.Bad,(x:DGuest).C.Timer,(x:DGuest).C.Waits,(x:DGuest).C.User,(x:DGuest).C.On,(x:DGuest).C.Stopped,(x:DGuest).Pages,(x:DGuest).In,(x:DGuest).Out)
 | .k1047,x=>((x:DBare).C.Regs,(x:DBare).C.Pc,(x:DBare).C.Root,(x:DBare).C.Vector,(x:DBare).C.Saved,(x:DBare).C.SavedUser,(x:DBare).C.Cause,(x:DBare).C.Bad,(x:DBare).C.Timer,(x:DBare).C.Waits,(x:DBare).C.User,(x:DBare).C.On,(x:DBare).C.Stopped,(x:DBare).Mem,(x:DBare).In,(x:DBare).Out)
 | .k1118,x=>((x:Dl20Rd).b,(x:Dl20Rd).p)
 | .k1148,x=>((x:DCore).Regs,(x:DCore).Pc,(x:DCore).Root,(x:DCore).Vector,(x:DCore).Saved,(x:DCore).SavedUser,(x:DCore).Cause,(x:DCore).Bad,(x:DCore).Timer,(x:DCore).Waits,(x:DCore).User,(x:DCore).On,(x:DCore).Stopped)
 | .k1151,x=>((x:DGuest).Live,(x:DGuest).C.Regs,(x:DGuest).C.Pc,(x:DGuest).C.Root,(x:DGuest).C.Vector,(x:DGuest).C.Saved,(x:DGuest).C.SavedUser,(x:DGuest).C.Cause,(x:DGuest).C.Bad,(x:DGuest).C.Timer,(x:DGuest).C.Waits,(x:DGuest).C.User,(x:DGuest).C.On,(x:DGuest).C.Stopped,(x:DGuest).Pages,(x:DGuest).In,(x:DGuest).Out)
 | .k2026,x=>((x:DHost).Words,(x:DHost).Guests)
 | .k2056,x=>((x:DHost).Words,(x:DHost).Guests)
def mkK:∀k,Tup tG (lfK k)->TyT k
 | .k3,a0=>a0
 | .k4,a0=>a0
 | .k5,a0=>a0
 | .k26,(a0,a1)=>(DHost.mk a0 a1)
 | .k35,(a0,a1,a2,a3,a4,a5,a6,a7,a8,a9,a10,a11,a12)=>(DCore.mk a0 a1 a2 a3 a4 a5 a6 a7 a8 a9 a10 a11 a12)
 | .k38,(a0,a1,a2,a3,a4,a5,a6,a7,a8,a9,a10,a11,a12,a13,a14,a15,a16)=>(DGuest.mk a0 (DCore.mk a1 a2 a3 a4 a5 a6 a7 a8 a9 a10 a11 a12 a13) a14 a15 a16)
 | .k47,(a0,a1,a2,a3,a4,a5,a6,a7,a8,a9,a10,a11,a12,a13,a14,a15)=>(DBare.mk (DCore.mk a0 a1 a2 a3 a4 a5 a6 a7 a8 a9 a10 a11 a12) a13 a14 a15)
 | .k53,(a0,a1,a2)=>(DSlot.mk a0 a1 a2)
 | .k56,(a0,a1)=>(DHost.mk a0 a1)
 | .k89,(a0,a1,a2)=>(DIns.mk a0 a1 a2)
 | .k103,(a0,a1,a2,a3,a4,a5)=>(DShade.mk a0 a1 a2 a3 a4 a5)
 | .k114,(a0,a1,a2,a3,a4,a5,a6,a7)=>(DLine.mk a0 a1 (DShade.mk a2 a3 a4 a5 a6 a7))
 | .k118,(a0,a1)=>(Dl20Rd.mk a0 a1)
 | .k129,(a0,a1,a2,a3,a4)=>(DExit.mk a0 a1 (DIns.mk a2 a3 a4))
 | .k139,(a0,a1,a2,a3)=>(DEntry.mk a0 a1 a2 a3)
 | .k148,(a0,a1,a2,a3,a4,a5,a6,a7,a8,a9,a10,a11,a12)=>(DCore.mk a0 a1 a2 a3 a4 a5 a6 a7 a8 a9 a10 a11 a12)
 | .k151,(a0,a1,a2,a3,a4,a5,a6,a7,a8,a9,a10,a11,a12,a13,a14,a15,a16)=>(DGuest.mk a0 (DCore.mk a1 a2 a3 a4 a5 a6 a7 a8 a9 a10 a11 a12 a13) a14 a15 a16)
 | .k184,(a0,a1,a2)=>(DSlot.mk a0 a1 a2)
 | .k1035,(a0,a1,a2,a3,a4,a5,a6,a7,a8,a9,a10,a11,a12)=>(DCore.mk a0 a1 a2 a3 a4 a5 a6 a7 a8 a9 a10 a11 a12)
 | .k1038,(a0,a1,a2,a3,a4,a5,a6,a7,a8,a9,a10,a11,a12,a13,a14,a15,a16)=>(DGuest.mk a0 (DCore.mk a1 a2 a3 a4 a5 a6 a7 a8 a9 a10 a11 a12 a13) a14 a15 a16)
 | .k1047,(a0,a1,a2,a3,a4,a5,a6,a7,a8,a9,a10,a11,a12,a13,a14,a15)=>(DBare.mk (DCore.mk a0 a1 a2 a3 a4 a5 a6 a7 a8 a9 a10 a11 a12) a13 a14 a15)
 | .k1118,(a0,a1)=>(Dl20Rd.mk a0 a1)
 | .k1148,(a0,a1,a2,a3,a4,a5,a6,a7,a8,a9,a10,a11,a12)=>(DCore.mk a0 a1 a2 a3 a4 a5 a6 a7 a8 a9 a10 a11 a12)
 | .k1151,(a0,a1,a2,a3,a4,a5,a6,a7,a8,a9,a10,a11,a12,a13,a14,a15,a16)=>(DGuest.mk a0 (DCore.mk a1 a2 a3 a4 a5 a6 a7 a8 a9 a10 a11 a12 a13) a14 a15 a16)
 | .k2026,(a0,a1)=>(DHost.mk a0 a1)
 | .k2056,(a0,a1)=>(DHost.mk a0 a1)
def bMk(x:DHost):List AV:=[.bor (List.length x.Words) (fl (eI .i64) x.Words),.bor (List.length x.Guests) (fl bK x.Guests)]
theorem bSy:∀x,aM (bMk x)=true:=λx=>by simp only[bMk,aM,AV.noRef,Bool.and_self,aB aY,aB cH]
def bPb(x:DHost):List AV:=[.bor (List.length x.Words) (fl (eI .i64) x.Words),.bor (List.length x.Guests) (fl aCj x.Guests)]
theorem bRv:∀x,aM (bPb x)=true:=λx=>by simp only[bPb,aM,AV.noRef,Bool.and_self,aB aY,aB aAb]
def avK:∀k,TyT k->List AV
 | .k3=>eI .i64
 | .k4=>eB
 | .k5=>eI .u8
 | .k26=>fH
 | .k35=>aIp
 | .k38=>dO
 | .k47=>aKw
 | .k53=>gL
 | .k56=>aPh
 | .k89=>dX
 | .k103=>pH
 | .k114=>aLw
 | .k118=>zA
 | .k129=>aLl
 | .k139=>aLv
 | .k148=>aBt
 | .k151=>zD
 | .k184=>yZ
 | .k1035=>aOr
 | .k1038=>bK
 | .k1047=>aPa
 | .k1118=>aFe
 | .k1148=>aHg
 | .k1151=>aCj
 | .k2026=>bMk
 | .k2056=>bPb
theorem clK:∀k x,plK k=true->bB (avK k x)=true
 | .k3,x,_=>cN x
 | .k4,x,_=>bHo x
 | .k5,x,_=>cN x
 | .k26,x,_=>qX x
 | .k35,x,_=>aTj x
 | .k38,x,_=>aLj x
 | .k47,x,_=>aTi x
 | .k53,x,_=>aDv x
 | .k56,x,_=>aUc x
 | .k89,x,_=>aTl x
 | .k103,x,_=>aAg x
 | .k114,x,_=>aOj x
 | .k118,x,_=>aNx x
 | .k129,x,_=>aPc x
 | .k139,x,_=>aNv x
 | .k148,x,_=>aOg x
 | .k151,x,_=>aGw x
 | .k184,x,_=>aAf x
 | .k1035,_,h=>by cases h
 | .k1038,_,h=>by cases h
 | .k1047,_,h=>by cases h
 | .k1118,_,h=>by cases h
 | .k1148,_,h=>by cases h
 | .k1151,_,h=>by cases h
 | .k2026,_,h=>by cases h
 | .k2056,_,h=>by cases h
theorem nrK:∀k x,aM (avK k x)=true
 | .k3,x=>aY x
 | .k4,x=>bGc x
 | .k5,x=>aY x
 | .k26,x=>aLo x
 | .k35,x=>aLh x
 | .k38,x=>aEr x
 | .k47,x=>aLy x
 | .k53,x=>oU x
 | .k56,x=>aLx x
 | .k89,x=>sA x
 | .k103,x=>qO x
 | .k114,x=>aHk x
 | .k118,x=>cV x
 | .k129,x=>aFn x
 | .k139,x=>aHm x
 | .k148,x=>aGg x
 | .k151,x=>aAn x
 | .k184,x=>vN x
 | .k1035,x=>aLq x
 | .k1038,x=>cH x
 | .k1047,x=>aLe x
 | .k1118,x=>aHd x
 | .k1148,x=>aGs x
 | .k1151,x=>aAb x
 | .k2026,x=>bSy x
 | .k2056,x=>bRv x
theorem bZs:∀k,plK k=true->(lfK k).all (plL tG)=true
 | .k3,_=>rfl
 | .k4,_=>rfl
 | .k5,_=>rfl
 | .k26,_=>rfl
 | .k35,_=>rfl
 | .k38,_=>rfl
 | .k47,_=>rfl
 | .k53,_=>rfl
 | .k56,_=>rfl
 | .k89,_=>rfl
 | .k103,_=>rfl
 | .k114,_=>rfl
 | .k118,_=>rfl
 | .k129,_=>rfl
 | .k139,_=>rfl
 | .k148,_=>rfl
 | .k151,_=>rfl
 | .k184,_=>rfl
 | .k1035,h=>by cases h
 | .k1038,h=>by cases h
 | .k1047,h=>by cases h
 | .k1118,h=>by cases h
 | .k1148,h=>by cases h
 | .k1151,h=>by cases h
 | .k2026,h=>by cases h
 | .k2056,h=>by cases h
theorem bZr:∀k,elK k=true->(lfK k).all (elL tG)=true
 | .k3,_=>rfl
 | .k4,_=>rfl
 | .k5,_=>rfl
 | .k26,_=>rfl
 | .k35,_=>rfl
 | .k38,_=>rfl
 | .k47,_=>rfl
 | .k53,_=>rfl
 | .k56,_=>rfl
 | .k89,_=>rfl
 | .k103,_=>rfl
 | .k114,_=>rfl
 | .k118,_=>rfl
 | .k129,_=>rfl
 | .k139,_=>rfl
 | .k148,_=>rfl
 | .k151,_=>rfl
 | .k184,_=>rfl
 | .k1035,_=>rfl
 | .k1038,_=>rfl
 | .k1047,_=>rfl
 | .k1118,_=>rfl
 | .k1148,_=>rfl
 | .k1151,_=>rfl
 | .k2026,h=>by cases h
 | .k2056,h=>by cases h
theorem bZc:∀k,elK k=true->plK (kk (unK k))=true
 | .k3,_=>rfl
 | .k4,_=>rfl
 | .k5,_=>rfl
 | .k26,_=>rfl
 | .k35,_=>rfl
 | .k38,_=>rfl
 | .k47,_=>rfl
 | .k53,_=>rfl
 | .k56,_=>rfl
 | .k89,_=>rfl
 | .k103,_=>rfl
 | .k114,_=>rfl
 | .k118,_=>rfl
 | .k129,_=>rfl
 | .k139,_=>rfl
 | .k148,_=>rfl
 | .k151,_=>rfl
 | .k184,_=>rfl
 | .k1035,_=>rfl
 | .k1038,_=>rfl
 | .k1047,_=>rfl
 | .k1118,_=>rfl
 | .k1148,_=>rfl
 | .k1151,_=>rfl
 | .k2026,h=>by cases h
 | .k2056,h=>by cases h
theorem thK:∀k x,elK k=true->(avK k x).map AV.thaw=avK (kk (unK k)) (cast (tuK k) x)
 | .k3,x,_=>by kernel_rfl
 | .k4,x,_=>by kernel_rfl
 | .k5,x,_=>by kernel_rfl
 | .k26,x,_=>by kernel_rfl
 | .k35,x,_=>by kernel_rfl
 | .k38,x,_=>by kernel_rfl
 | .k47,x,_=>by kernel_rfl
 | .k53,x,_=>by kernel_rfl
 | .k56,x,_=>by kernel_rfl
 | .k89,x,_=>by kernel_rfl
 | .k103,x,_=>by kernel_rfl
 | .k114,x,_=>by kernel_rfl
 | .k118,x,_=>by kernel_rfl
 | .k129,x,_=>by kernel_rfl
 | .k139,x,_=>by kernel_rfl
 | .k148,x,_=>by kernel_rfl
 | .k151,x,_=>by kernel_rfl
 | .k184,x,_=>by kernel_rfl
 | .k1035,x,_=>by kernel_rfl
 | .k1038,x,_=>by kernel_rfl
 | .k1047,x,_=>by kernel_rfl
 | .k1118,x,_=>by kernel_rfl
 | .k1148,x,_=>by kernel_rfl
 | .k1151,x,_=>by kernel_rfl
 | .k2026,_,h=>by cases h
 | .k2056,_,h=>by cases h
theorem shK:∀k x,elK k=true->Shal (avK k x)
 | .k3,x,_=>jZ (cE x)
 | .k4,x,_=>jZ (bQm x)
 | .k5,x,_=>jZ (cE x)
 | .k26,x,_=>jZ (bEw x)
 | .k35,x,_=>jZ (bEh x)
 | .k38,x,_=>jZ (bDa x)
 | .k47,x,_=>jZ (bDj x)
 | .k53,x,_=>jZ (aLr x)
 | .k56,x,_=>jZ (bCq x)
 | .k89,x,_=>jZ (bEr x)
 | .k103,x,_=>jZ (aFk x)
 | .k114,x,_=>jZ (aWt x)
 | .k118,x,_=>jZ (aXr x)
 | .k129,x,_=>jZ (bBa x)
 | .k139,x,_=>jZ (aZj x)
 | .k148,x,_=>jZ (aWx x)
 | .k151,x,_=>jZ (bAt x)
 | .k184,x,_=>jZ (aFz x)
 | .k1035,x,_=>bSp x
 | .k1038,x,_=>aTq x
 | .k1047,x,_=>bSc x
 | .k1118,x,_=>bOb x
 | .k1148,x,_=>bQe x
 | .k1151,x,_=>bPz x
 | .k2026,_,h=>by cases h
 | .k2056,_,h=>by cases h
theorem ckK{a b:Prop}(h:a)(e:a=b:=by kernel_rfl):b:=e▸h
theorem bXw:∀k,elK k=true->nB (avK k) (λx=>avK (kk (unK k)) (cast (tuK k) x))
 | .k3,_=>ckK (hU (c:=eI .i64) cE cN)
 | .k4,_=>ckK (hU (c:=eB) bQm bHo)
 | .k5,_=>ckK (hU (c:=eI .u8) cE cN)
 | .k26,_=>ckK (hU (c:=fH) bEw qX)
 | .k35,_=>ckK (hU (c:=aIp) bEh aTj)
 | .k38,_=>ckK (hU (c:=dO) bDa aLj)
 | .k47,_=>ckK (hU (c:=aKw) bDj aTi)
 | .k53,_=>ckK (hU (c:=gL) aLr aDv)
 | .k56,_=>ckK (hU (c:=aPh) bCq aUc)
 | .k89,_=>ckK (hU (c:=dX) bEr aTl)
 | .k103,_=>ckK (hU (c:=pH) aFk aAg)
 | .k114,_=>ckK (hU (c:=aLw) aWt aOj)
 | .k118,_=>ckK (hU (c:=zA) aXr aNx)
 | .k129,_=>ckK (hU (c:=aLl) bBa aPc)
 | .k139,_=>ckK (hU (c:=aLv) aZj aNv)
 | .k148,_=>ckK (hU (c:=aBt) aWx aOg)
 | .k151,_=>ckK (hU (c:=zD) bAt aGw)
 | .k184,_=>ckK (hU (c:=yZ) aFz aAf)
 | .k1035,_=>ckK bRw
 | .k1038,_=>ckK kK
 | .k1047,_=>ckK bRs
 | .k1118,_=>ckK bOa
 | .k1148,_=>ckK bMv
 | .k1151,_=>ckK bPf
 | .k2026,h=>by cases h
 | .k2056,h=>by cases h
def tG1:TS1:=⟨tG,λc=>prK (kk c),λc=>mkK (kk c),λc=>avK (kk c)⟩
theorem bYu:∀k x,avK k x=trs tG1 (cK tG (lfK k) (prK k x))
 | .k3,x=>by kernel_rfl
 | .k4,x=>by kernel_rfl
 | .k5,x=>by kernel_rfl
 | .k26,x=>by kernel_rfl
 | .k35,x=>by kernel_rfl
 | .k38,x=>by kernel_rfl
 | .k47,x=>by kernel_rfl
 | .k53,x=>by kernel_rfl
 | .k56,x=>by kernel_rfl
 | .k89,x=>by kernel_rfl
 | .k103,x=>by kernel_rfl
 | .k114,x=>by kernel_rfl
 | .k118,x=>by kernel_rfl
 | .k129,x=>by kernel_rfl
 | .k139,x=>by kernel_rfl
 | .k148,x=>by kernel_rfl
 | .k151,x=>by kernel_rfl
 | .k184,x=>by kernel_rfl
 | .k1035,x=>by kernel_rfl
 | .k1038,x=>by kernel_rfl
 | .k1047,x=>by kernel_rfl
 | .k1118,x=>by kernel_rfl
 | .k1148,x=>by kernel_rfl
 | .k1151,x=>by kernel_rfl
 | .k2026,x=>by kernel_rfl
 | .k2056,x=>by kernel_rfl
theorem cAu:∀k t,prK k (mkK k t)=t
 | .k3,t=>by kernel_rfl
 | .k4,t=>by kernel_rfl
 | .k5,t=>by kernel_rfl
 | .k26,t=>by kernel_rfl
 | .k35,t=>by kernel_rfl
 | .k38,t=>by kernel_rfl
 | .k47,t=>by kernel_rfl
 | .k53,t=>by kernel_rfl
 | .k56,t=>by kernel_rfl
 | .k89,t=>by kernel_rfl
 | .k103,t=>by kernel_rfl
 | .k114,t=>by kernel_rfl
 | .k118,t=>by kernel_rfl
 | .k129,t=>by kernel_rfl
 | .k139,t=>by kernel_rfl
 | .k148,t=>by kernel_rfl
 | .k151,t=>by kernel_rfl
 | .k184,t=>by kernel_rfl
 | .k1035,t=>by kernel_rfl
 | .k1038,t=>by kernel_rfl
 | .k1047,t=>by kernel_rfl
 | .k1118,t=>by kernel_rfl
 | .k1148,t=>by kernel_rfl
 | .k1151,t=>by kernel_rfl
 | .k2026,t=>by kernel_rfl
 | .k2056,t=>by kernel_rfl
theorem bZo:∀k,0<(lfK k).length
 | .k3=>by decide
 | .k4=>by decide
 | .k5=>by decide
 | .k26=>by decide
 | .k35=>by decide
 | .k38=>by decide
 | .k47=>by decide
 | .k53=>by decide
 | .k56=>by decide
 | .k89=>by decide
 | .k103=>by decide
 | .k114=>by decide
 | .k118=>by decide
 | .k129=>by decide
 | .k139=>by decide
 | .k148=>by decide
 | .k151=>by decide
 | .k184=>by decide
 | .k1035=>by decide
 | .k1038=>by decide
 | .k1047=>by decide
 | .k1118=>by decide
 | .k1148=>by decide
 | .k1151=>by decide
 | .k2026=>by decide
 | .k2056=>by decide
def tS:TS2:=⟨tG1,λc x=>bYu (kk c) x,λc t=>cAu (kk c) t,λc=>bZo (kk c),λc x=>clK (kk c) x,λc x=>nrK (kk c) x,λc=>bZs (kk c),λc=>bZr (kk c),λc x=>thK (kk c) x,λc x=>shK (kk c) x,λc=>bXw (kk c),λc=>bZc (kk c)⟩
abbrev Sok(f:Nat)(g:Sg tG):Prop:=SgP tG1 Tryz.prog f (avR tG1 g.r) g.ps [] g.F
abbrev Sjk(f:Nat)(g:Sw tG):Prop:=SjP tG1 Tryz.prog f g.r g.qs g.qs [] TH.emp 0 g.F
def cxL(l:List (Nat×Sx tG)):Ctx tG:=λk=>match l with
 |[]=>none
 |(f,s)::l=>match Nat.beq f k with|true=>some s|false=>cxL l k
def CxP:List (Nat×Sx tG)->Prop
 |[]=>True
 |(f,s)::l=>bVd tG1 Tryz.prog f s/\CxP l
theorem aYt:∀{l:List (Nat×Sx tG)},CxP l->rH tG1 Tryz.prog (cxL l)
 |[],_=>λf s h=>by simp only[cxL]at h;cases h
 |(f0,s0)::l,hl=>λf s h=>by simp only[cxL]at h;split at h;{rename_i e;have:=Nat.eq_of_beq_eq_true e;subst this;cases h;exact hl.1};{exact aYt hl.2 f s h}
theorem sgx{f:Nat}{g:Sg tG}(l:List (Nat×Sx tG))(hl:CxP l)(A:An)(h:bHq tG1 (cxL l) (yB Tryz.prog f) A g.r g.ps [] 0=g.F)(h1:(jL Tryz.prog f).isSome=true)(h2:(Nat.ble g.ps.length (yB Tryz.prog f).ntmps&&wfR tG g.r&&g.ps.all (wfA tG))=true):Sok f g:=sg (τ:=tS) (aYt hl) f A g.r g.ps g.F h h1 h2
theorem sgy{f:Nat}{g:Sw tG}(l:List (Nat×Sx tG))(hl:CxP l)(A:An)(h:bGk tG1 (cxL l) (yB Tryz.prog f) A g.r g.qs g.qs [] TH.emp 0 0=g.F)(h1:(jL Tryz.prog f).isSome=true)(h2:(Nat.ble g.qs.length (yB Tryz.prog f).ntmps&&wfR tG g.r&&g.qs.all (wfQ tG))=true):Sjk f g:=sgw (τ:=tS) (aYt hl) f A g.r g.qs g.F h h1 h2
theorem kc{a b:Prop}(h:a)(e:a=b:=by kernel_rfl):b:=e▸h
end Go.Proofs.YtkjabgefacfpfaaGreat
