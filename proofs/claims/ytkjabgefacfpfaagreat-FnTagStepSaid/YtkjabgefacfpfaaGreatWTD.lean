/- The types of the typed machine. Made by program. -/
import Derived.Test.YtkjabgefacfpfaaGreatWT5
import Derived.Test.YtkjabgefacfpfaaGreatDE
import Derived.Test.YtkjabgefacfpfaaGreatProg
namespace Go.Proofs.YtkjabgefacfpfaaGreat
open Go.RowKit
set_option maxRecDepth 100000
set_option linter.all false
set_option maxHeartbeats 0
inductive TyK where
 |k3
 |k4
 |k5
 |k26
 |k35
 |k38
 |k47
 |k53
 |k56
 |k89
 |k103
 |k114
 |k118
 |k129
 |k139
 |k148
 |k151
 |k184
 |k1035
 |k1038
 |k1047
 |k1118
 |k1148
 |k1151
 |k2026
 |k2056
def kk:Nat->TyK
 |3=> .k3
 |4=> .k4
 |5=> .k5
 |26=> .k26
 |35=> .k35
 |38=> .k38
 |47=> .k47
 |53=> .k53
 |56=> .k56
 |89=> .k89
 |103=> .k103
 |114=> .k114
 |118=> .k118
 |129=> .k129
 |139=> .k139
 |148=> .k148
 |151=> .k151
 |184=> .k184
 |1035=> .k1035
 |1038=> .k1038
 |1047=> .k1047
 |1118=> .k1118
 |1148=> .k1148
 |1151=> .k1151
 |2026=> .k2026
 |2056=> .k2056
 |_=> .k3
def TyT:TyK->Type
 | .k3=>Int
 | .k4=>Bool
 | .k5=>Int
 | .k26=>DHost
 | .k35=>DCore
 | .k38=>DGuest
 | .k47=>DBare
 | .k53=>DSlot
 | .k56=>DHost
 | .k89=>DIns
 | .k103=>DShade
 | .k114=>DLine
 | .k118=>Dl20Rd
 | .k129=>DExit
 | .k139=>DEntry
 | .k148=>DCore
 | .k151=>DGuest
 | .k184=>DSlot
 | .k1035=>DCore
 | .k1038=>DGuest
 | .k1047=>DBare
 | .k1118=>Dl20Rd
 | .k1148=>DCore
 | .k1151=>DGuest
 | .k2026=>DHost
 | .k2056=>DHost
@[reducible] def inK : ∀ k, Inhabited (TyT k)
 | .k3=>⟨(default:Int)⟩
 | .k4=>⟨(default:Bool)⟩
 | .k5=>⟨(default:Int)⟩
 | .k26=>⟨(default:DHost)⟩
 | .k35=>⟨(default:DCore)⟩
 | .k38=>⟨(default:DGuest)⟩
 | .k47=>⟨(default:DBare)⟩
 | .k53=>⟨(default:DSlot)⟩
 | .k56=>⟨(default:DHost)⟩
 | .k89=>⟨(default:DIns)⟩
 | .k103=>⟨(default:DShade)⟩
 | .k114=>⟨(default:DLine)⟩
 | .k118=>⟨(default:Dl20Rd)⟩
 | .k129=>⟨(default:DExit)⟩
 | .k139=>⟨(default:DEntry)⟩
 | .k148=>⟨(default:DCore)⟩
 | .k151=>⟨(default:DGuest)⟩
 | .k184=>⟨(default:DSlot)⟩
 | .k1035=>⟨(default:DCore)⟩
 | .k1038=>⟨(default:DGuest)⟩
 | .k1047=>⟨(default:DBare)⟩
 | .k1118=>⟨(default:Dl20Rd)⟩
 | .k1148=>⟨(default:DCore)⟩
 | .k1151=>⟨(default:DGuest)⟩
 | .k2026=>⟨(default:DHost)⟩
 | .k2056=>⟨(default:DHost)⟩
def lfK:TyK->List Lf
 | .k3=>[.i .i64]
 | .k4=>[.b]
 | .k5=>[.i .u8]
 | .k26=>[.row 3,.row 38]
 | .k35=>[.row 3,.i .i64,.i .i64,.i .i64,.i .i64,.b,.i .i64,.i .i64,.i .i64,.b,.b,.b,.b]
 | .k38=>[.b,.row 3,.i .i64,.i .i64,.i .i64,.i .i64,.b,.i .i64,.i .i64,.i .i64,.b,.b,.b,.b,.row 53,.row 3,.row 3]
 | .k47=>[.row 3,.i .i64,.i .i64,.i .i64,.i .i64,.b,.i .i64,.i .i64,.i .i64,.b,.b,.b,.b,.row 3,.row 3,.row 3]
 | .k53=>[.i .i64,.b,.b]
 | .k56=>[.row 3,.row 151]
 | .k89=>[.i .i64,.i .i64,.i .i64]
 | .k103=>[.b,.b,.b,.i .i64,.i .i64,.b]
 | .k114=>[.i .i64,.i .i64,.b,.b,.b,.i .i64,.i .i64,.b]
 | .k118=>[.row 5,.i .i64]
 | .k129=>[.i .i64,.i .i64,.i .i64,.i .i64,.i .i64]
 | .k139=>[.b,.b,.b,.i .i64]
 | .k148=>[.row 3,.i .i64,.i .i64,.i .i64,.i .i64,.b,.i .i64,.i .i64,.i .i64,.b,.b,.b,.b]
 | .k151=>[.b,.row 3,.i .i64,.i .i64,.i .i64,.i .i64,.b,.i .i64,.i .i64,.i .i64,.b,.b,.b,.b,.row 184,.row 3,.row 3]
 | .k184=>[.i .i64,.b,.b]
 | .k1035=>[.own 3,.i .i64,.i .i64,.i .i64,.i .i64,.b,.i .i64,.i .i64,.i .i64,.b,.b,.b,.b]
 | .k1038=>[.b,.own 3,.i .i64,.i .i64,.i .i64,.i .i64,.b,.i .i64,.i .i64,.i .i64,.b,.b,.b,.b,.own 53,.own 3,.own 3]
 | .k1047=>[.own 3,.i .i64,.i .i64,.i .i64,.i .i64,.b,.i .i64,.i .i64,.i .i64,.b,.b,.b,.b,.own 3,.own 3,.own 3]
 | .k1118=>[.own 5,.i .i64]
 | .k1148=>[.own 3,.i .i64,.i .i64,.i .i64,.i .i64,.b,.i .i64,.i .i64,.i .i64,.b,.b,.b,.b]
 | .k1151=>[.b,.own 3,.i .i64,.i .i64,.i .i64,.i .i64,.b,.i .i64,.i .i64,.i .i64,.b,.b,.b,.b,.own 184,.own 3,.own 3]
 | .k2026=>[.row 3,.row 1038]
 | .k2056=>[.row 3,.row 1151]
def unK:TyK->Nat
 | .k3=>3
 | .k4=>4
 | .k5=>5
 | .k26=>26
 | .k35=>35
 | .k38=>38
 | .k47=>47
 | .k53=>53
 | .k56=>56
 | .k89=>89
 | .k103=>103
 | .k114=>114
 | .k118=>118
 | .k129=>129
 | .k139=>139
 | .k148=>148
 | .k151=>151
 | .k184=>184
 | .k1035=>35
 | .k1038=>38
 | .k1047=>47
 | .k1118=>118
 | .k1148=>148
 | .k1151=>151
 | .k2026=>26
 | .k2056=>56
theorem tuK:∀k,TyT k=TyT (kk (unK k))
 | .k3=>rfl
 | .k4=>rfl
 | .k5=>rfl
 | .k26=>rfl
 | .k35=>rfl
 | .k38=>rfl
 | .k47=>rfl
 | .k53=>rfl
 | .k56=>rfl
 | .k89=>rfl
 | .k103=>rfl
 | .k114=>rfl
 | .k118=>rfl
 | .k129=>rfl
 | .k139=>rfl
 | .k148=>rfl
 | .k151=>rfl
 | .k184=>rfl
 | .k1035=>rfl
 | .k1038=>rfl
 | .k1047=>rfl
 | .k1118=>rfl
 | .k1148=>rfl
 | .k1151=>rfl
 | .k2026=>rfl
 | .k2056=>rfl
def plK:TyK->Bool
 | .k3=>true
 | .k4=>true
 | .k5=>true
 | .k26=>true
 | .k35=>true
 | .k38=>true
 | .k47=>true
 | .k53=>true
 | .k56=>true
 | .k89=>true
 | .k103=>true
 | .k114=>true
 | .k118=>true
 | .k129=>true
 | .k139=>true
 | .k148=>true
 | .k151=>true
 | .k184=>true
 | .k1035=>false
 | .k1038=>false
 | .k1047=>false
 | .k1118=>false
 | .k1148=>false
 | .k1151=>false
 | .k2026=>false
 | .k2056=>false
def elK:TyK->Bool
 | .k3=>true
 | .k4=>true
 | .k5=>true
 | .k26=>true
 | .k35=>true
 | .k38=>true
 | .k47=>true
 | .k53=>true
 | .k56=>true
 | .k89=>true
 | .k103=>true
 | .k114=>true
 | .k118=>true
 | .k129=>true
 | .k139=>true
 | .k148=>true
 | .k151=>true
 | .k184=>true
 | .k1035=>true
 | .k1038=>true
 | .k1047=>true
 | .k1118=>true
 | .k1148=>true
 | .k1151=>true
 | .k2026=>false
 | .k2056=>false
def tG:TS:=⟨λc=>TyT (kk c),λc=>inK (kk c),λc=>c%1000,λc=>lfK (kk c),λc=>unK (kk c),λc=>c+1000,λc=>tuK (kk c),λc=>plK (kk c),λc=>elK (kk c)⟩
def prK:∀k,TyT k->Tup tG (lfK k)
 | .k3,x=>(x:Int)
 | .k4,x=>(x:Bool)
 | .k5,x=>(x:Int)
 | .k26,x=>((x:DHost).Words,(x:DHost).Guests)
 | .k35,x=>((x:DCore).Regs,(x:DCore).Pc,(x:DCore).Root,(x:DCore).Vector,(x:DCore).Saved,(x:DCore).SavedUser,(x:DCore).Cause,(x:DCore).Bad,(x:DCore).Timer,(x:DCore).Waits,(x:DCore).User,(x:DCore).On,(x:DCore).Stopped)
 | .k38,x=>((x:DGuest).Live,(x:DGuest).C.Regs,(x:DGuest).C.Pc,(x:DGuest).C.Root,(x:DGuest).C.Vector,(x:DGuest).C.Saved,(x:DGuest).C.SavedUser,(x:DGuest).C.Cause,(x:DGuest).C.Bad,(x:DGuest).C.Timer,(x:DGuest).C.Waits,(x:DGuest).C.User,(x:DGuest).C.On,(x:DGuest).C.Stopped,(x:DGuest).Pages,(x:DGuest).In,(x:DGuest).Out)
 | .k47,x=>((x:DBare).C.Regs,(x:DBare).C.Pc,(x:DBare).C.Root,(x:DBare).C.Vector,(x:DBare).C.Saved,(x:DBare).C.SavedUser,(x:DBare).C.Cause,(x:DBare).C.Bad,(x:DBare).C.Timer,(x:DBare).C.Waits,(x:DBare).C.User,(x:DBare).C.On,(x:DBare).C.Stopped,(x:DBare).Mem,(x:DBare).In,(x:DBare).Out)
 | .k53,x=>((x:DSlot).Frame,(x:DSlot).Write,(x:DSlot).Dirty)
 | .k56,x=>((x:DHost).Words,(x:DHost).Guests)
 | .k89,x=>((x:DIns).Op,(x:DIns).A,(x:DIns).N)
 | .k103,x=>((x:DShade).There,(x:DShade).Write,(x:DShade).User,(x:DShade).Page,(x:DShade).Frame,(x:DShade).Ready)
 | .k114,x=>((x:DLine).Tag,(x:DLine).At,(x:DLine).What.There,(x:DLine).What.Write,(x:DLine).What.User,(x:DLine).What.Page,(x:DLine).What.Frame,(x:DLine).What.Ready)
 | .k118,x=>((x:Dl20Rd).b,(x:Dl20Rd).p)
 | .k129,x=>((x:DExit).Why,(x:DExit).Page,(x:DExit).What.Op,(x:DExit).What.A,(x:DExit).What.N)
 | .k139,x=>((x:DEntry).There,(x:DEntry).Write,(x:DEntry).User,(x:DEntry).Page)
 | .k148,x=>((x:DCore).Regs,(x:DCore).Pc,(x:DCore).Root,(x:DCore).Vector,(x:DCore).Saved,(x:DCore).SavedUser,(x:DCore).Cause,(x:DCore).Bad,(x:DCore).Timer,(x:DCore).Waits,(x:DCore).User,(x:DCore).On,(x:DCore).Stopped)
 | .k151,x=>((x:DGuest).Live,(x:DGuest).C.Regs,(x:DGuest).C.Pc,(x:DGuest).C.Root,(x:DGuest).C.Vector,(x:DGuest).C.Saved,(x:DGuest).C.SavedUser,(x:DGuest).C.Cause,(x:DGuest).C.Bad,(x:DGuest).C.Timer,(x:DGuest).C.Waits,(x:DGuest).C.User,(x:DGuest).C.On,(x:DGuest).C.Stopped,(x:DGuest).Pages,(x:DGuest).In,(x:DGuest).Out)
 | .k184,x=>((x:DSlot).Frame,(x:DSlot).Write,(x:DSlot).Dirty)
 | .k1035,x=>((x:DCore).Regs,(x:DCore).Pc,(x:DCore).Root,(x:DCore).Vector,(x:DCore).Saved,(x:DCore).SavedUser,(x:DCore).Cause,(x:DCore).Bad,(x:DCore).Timer,(x:DCore).Waits,(x:DCore).User,(x:DCore).On,(x:DCore).Stopped)
 | .k1038,x=>((x:DGuest).Live,(x:DGuest).C.Regs,(x:DGuest).C.Pc,(x:DGuest).C.Root,(x:DGuest).C.Vector,(x:DGuest).C.Saved,(x:DGuest).C.SavedUser,(x:DGuest).C.Cause,(x:DGuest).C.Bad,(x:DGuest).C.Timer,(x:DGuest).C.Waits,(x:DGuest).C.User,(x:DGuest).C.On,(x:DGuest).C.Stopped,(x:DGuest).Pages,(x:DGuest).In,(x:DGuest).Out)
 | .k1047,x=>((x:DBare).C.Regs,(x:DBare).C.Pc,(x:DBare).C.Root,(x:DBare).C.Vector,(x:DBare).C.Saved,(x:DBare).C.SavedUser,(x:DBare).C.Cause,(x:DBare).C.Bad,(x:DBare).C.Timer,(x:DBare).C.Waits,(x:DBare).C.User,(x:DBare).C.On,(x:DBare).C.Stopped,(x:DBare).Mem,(x:DBare).In,(x:DBare).Out)
 | .k1118,x=>((x:Dl20Rd).b,(x:Dl20Rd).p)
 | .k1148,x=>((x:DCore).Regs,(x:DCore).Pc,(x:DCore).Root,(x:DCore).Vector,(x:DCore).Saved,(x:DCore).SavedUser,(x:DCore).Cause,(x:DCore).Bad,(x:DCore).Timer,(x:DCore).Waits,(x:DCore).User,(x:DCore).On,(x:DCore).Stopped)
 | .k1151,x=>((x:DGuest).Live,(x:DGuest).C.Regs,(x:DGuest).C.Pc,(x:DGuest).C.Root,(x:DGuest).C.Vector,(x:DGuest).C.Saved,(x:DGuest).C.SavedUser,(x:DGuest).C.Cause,(x:DGuest).C.Bad,(x:DGuest).C.Timer,(x:DGuest).C.Waits,(x:DGuest).C.User,(x:DGuest).C.On,(x:DGuest).C.Stopped,(x:DGuest).Pages,(x:DGuest).In,(x:DGuest).Out)
 | .k2026,x=>((x:DHost).Words,(x:DHost).Guests)
 | .k2056,x=>((x:DHost).Words,(x:DHost).Guests)
def mkK:∀k,Tup tG (lfK k)->TyT k
 | .k3,a0=>a0
 | .k4,a0=>a0
 | .k5,a0=>a0
 | .k26,(a0,a1)=>(DHost.mk a0 a1)
 | .k35,(a0,a1,a2,a3,a4,a5,a6,a7,a8,a9,a10,a11,a12)=>(DCore.mk a0 a1 a2 a3 a4 a5 a6 a7 a8 a9 a10 a11 a12)
 | .k38,(a0,a1,a2,a3,a4,a5,a6,a7,a8,a9,a10,a11,a12,a13,a14,a15,a16)=>(DGuest.mk a0 (DCore.mk a1 a2 a3 a4 a5 a6 a7 a8 a9 a10 a11 a12 a13) a14 a15 a16)
 | .k47,(a0,a1,a2,a3,a4,a5,a6,a7,a8,a9,a10,a11,a12,a13,a14,a15)=>(DBare.mk (DCore.mk a0 a1 a2 a3 a4 a5 a6 a7 a8 a9 a10 a11 a12) a13 a14 a15)
 | .k53,(a0,a1,a2)=>(DSlot.mk a0 a1 a2)
 | .k56,(a0,a1)=>(DHost.mk a0 a1)
 | .k89,(a0,a1,a2)=>(DIns.mk a0 a1 a2)
 | .k103,(a0,a1,a2,a3,a4,a5)=>(DShade.mk a0 a1 a2 a3 a4 a5)
 | .k114,(a0,a1,a2,a3,a4,a5,a6,a7)=>(DLine.mk a0 a1 (DShade.mk a2 a3 a4 a5 a6 a7))
 | .k118,(a0,a1)=>(Dl20Rd.mk a0 a1)
 | .k129,(a0,a1,a2,a3,a4)=>(DExit.mk a0 a1 (DIns.mk a2 a3 a4))
 | .k139,(a0,a1,a2,a3)=>(DEntry.mk a0 a1 a2 a3)
 | .k148,(a0,a1,a2,a3,a4,a5,a6,a7,a8,a9,a10,a11,a12)=>(DCore.mk a0 a1 a2 a3 a4 a5 a6 a7 a8 a9 a10 a11 a12)
 | .k151,(a0,a1,a2,a3,a4,a5,a6,a7,a8,a9,a10,a11,a12,a13,a14,a15,a16)=>(DGuest.mk a0 (DCore.mk a1 a2 a3 a4 a5 a6 a7 a8 a9 a10 a11 a12 a13) a14 a15 a16)
 | .k184,(a0,a1,a2)=>(DSlot.mk a0 a1 a2)
 | .k1035,(a0,a1,a2,a3,a4,a5,a6,a7,a8,a9,a10,a11,a12)=>(DCore.mk a0 a1 a2 a3 a4 a5 a6 a7 a8 a9 a10 a11 a12)
 | .k1038,(a0,a1,a2,a3,a4,a5,a6,a7,a8,a9,a10,a11,a12,a13,a14,a15,a16)=>(DGuest.mk a0 (DCore.mk a1 a2 a3 a4 a5 a6 a7 a8 a9 a10 a11 a12 a13) a14 a15 a16)
 | .k1047,(a0,a1,a2,a3,a4,a5,a6,a7,a8,a9,a10,a11,a12,a13,a14,a15)=>(DBare.mk (DCore.mk a0 a1 a2 a3 a4 a5 a6 a7 a8 a9 a10 a11 a12) a13 a14 a15)
 | .k1118,(a0,a1)=>(Dl20Rd.mk a0 a1)
 | .k1148,(a0,a1,a2,a3,a4,a5,a6,a7,a8,a9,a10,a11,a12)=>(DCore.mk a0 a1 a2 a3 a4 a5 a6 a7 a8 a9 a10 a11 a12)
 | .k1151,(a0,a1,a2,a3,a4,a5,a6,a7,a8,a9,a10,a11,a12,a13,a14,a15,a16)=>(DGuest.mk a0 (DCore.mk a1 a2 a3 a4 a5 a6 a7 a8 a9 a10 a11 a12 a13) a14 a15 a16)
 | .k2026,(a0,a1)=>(DHost.mk a0 a1)
 | .k2056,(a0,a1)=>(DHost.mk a0 a1)
def bMj(x:DHost):List AV:=[.bor (List.length x.Words) (fl (eI .i64) x.Words),.bor (List.length x.Guests) (fl bJ x.Guests)]
theorem bPv:∀x,aJ (bMj x)=true:=λx=>by simp only[bMj,aJ,AV.noRef,Bool.and_self,aC bY,aC gE]
def bOi(x:DHost):List AV:=[.bor (List.length x.Words) (fl (eI .i64) x.Words),.bor (List.length x.Guests) (fl aBl x.Guests)]
theorem bQm:∀x,aJ (bOi x)=true:=λx=>by simp only[bOi,aJ,AV.noRef,Bool.and_self,aC bY,aC zZ]
def avK:∀k,TyT k->List AV
 | .k3=>eI .i64
 | .k4=>eB
 | .k5=>eI .u8
 | .k26=>fM
 | .k35=>aHl
 | .k38=>eG
 | .k47=>aIh
 | .k53=>kS
 | .k56=>aMw
 | .k89=>eU
 | .k103=>oR
 | .k114=>aJm
 | .k118=>aBi
 | .k129=>aJp
 | .k139=>aJv
 | .k148=>aBs
 | .k151=>yP
 | .k184=>yM
 | .k1035=>aNr
 | .k1038=>bJ
 | .k1047=>aMl
 | .k1118=>aEu
 | .k1148=>aDz
 | .k1151=>aBl
 | .k2026=>bMj
 | .k2056=>bOi
theorem clK:∀k x,plK k=true->aY (avK k x)=true
 | .k3,x,_=>cU x
 | .k4,x,_=>bGh x
 | .k5,x,_=>cU x
 | .k26,x,_=>qO x
 | .k35,x,_=>aRo x
 | .k38,x,_=>aJk x
 | .k47,x,_=>aRw x
 | .k53,x,_=>aDi x
 | .k56,x,_=>aRk x
 | .k89,x,_=>aRx x
 | .k103,x,_=>aAj x
 | .k114,x,_=>aMf x
 | .k118,x,_=>aNl x
 | .k129,x,_=>aMq x
 | .k139,x,_=>aNt x
 | .k148,x,_=>aMr x
 | .k151,x,_=>aFn x
 | .k184,x,_=>zU x
 | .k1035,_,h=>by cases h
 | .k1038,_,h=>by cases h
 | .k1047,_,h=>by cases h
 | .k1118,_,h=>by cases h
 | .k1148,_,h=>by cases h
 | .k1151,_,h=>by cases h
 | .k2026,_,h=>by cases h
 | .k2056,_,h=>by cases h
theorem nrK:∀k x,aJ (avK k x)=true
 | .k3,x=>bY x
 | .k4,x=>bEp x
 | .k5,x=>bY x
 | .k26,x=>aKa x
 | .k35,x=>aKi x
 | .k38,x=>aDd x
 | .k47,x=>aKh x
 | .k53,x=>zB x
 | .k56,x=>aJt x
 | .k89,x=>sX x
 | .k103,x=>pF x
 | .k114,x=>aEv x
 | .k118,x=>aEf x
 | .k129,x=>aFg x
 | .k139,x=>aEy x
 | .k148,x=>aEe x
 | .k151,x=>aAp x
 | .k184,x=>uW x
 | .k1035,x=>aJo x
 | .k1038,x=>gE x
 | .k1047,x=>aKb x
 | .k1118,x=>aEj x
 | .k1148,x=>aEx x
 | .k1151,x=>zZ x
 | .k2026,x=>bPv x
 | .k2056,x=>bQm x
theorem bXq:∀k,plK k=true->(lfK k).all (plL tG)=true
 | .k3,_=>rfl
 | .k4,_=>rfl
 | .k5,_=>rfl
 | .k26,_=>rfl
 | .k35,_=>rfl
 | .k38,_=>rfl
 | .k47,_=>rfl
 | .k53,_=>rfl
 | .k56,_=>rfl
 | .k89,_=>rfl
 | .k103,_=>rfl
 | .k114,_=>rfl
 | .k118,_=>rfl
 | .k129,_=>rfl
 | .k139,_=>rfl
 | .k148,_=>rfl
 | .k151,_=>rfl
 | .k184,_=>rfl
 | .k1035,h=>by cases h
 | .k1038,h=>by cases h
 | .k1047,h=>by cases h
 | .k1118,h=>by cases h
 | .k1148,h=>by cases h
 | .k1151,h=>by cases h
 | .k2026,h=>by cases h
 | .k2056,h=>by cases h
theorem bYn:∀k,elK k=true->(lfK k).all (elL tG)=true
 | .k3,_=>rfl
 | .k4,_=>rfl
 | .k5,_=>rfl
 | .k26,_=>rfl
 | .k35,_=>rfl
 | .k38,_=>rfl
 | .k47,_=>rfl
 | .k53,_=>rfl
 | .k56,_=>rfl
 | .k89,_=>rfl
 | .k103,_=>rfl
 | .k114,_=>rfl
 | .k118,_=>rfl
 | .k129,_=>rfl
 | .k139,_=>rfl
 | .k148,_=>rfl
 | .k151,_=>rfl
 | .k184,_=>rfl
 | .k1035,_=>rfl
 | .k1038,_=>rfl
 | .k1047,_=>rfl
 | .k1118,_=>rfl
 | .k1148,_=>rfl
 | .k1151,_=>rfl
 | .k2026,h=>by cases h
 | .k2056,h=>by cases h
theorem bYo:∀k,elK k=true->plK (kk (unK k))=true
 | .k3,_=>rfl
 | .k4,_=>rfl
 | .k5,_=>rfl
 | .k26,_=>rfl
 | .k35,_=>rfl
 | .k38,_=>rfl
 | .k47,_=>rfl
 | .k53,_=>rfl
 | .k56,_=>rfl
 | .k89,_=>rfl
 | .k103,_=>rfl
 | .k114,_=>rfl
 | .k118,_=>rfl
 | .k129,_=>rfl
 | .k139,_=>rfl
 | .k148,_=>rfl
 | .k151,_=>rfl
 | .k184,_=>rfl
 | .k1035,_=>rfl
 | .k1038,_=>rfl
 | .k1047,_=>rfl
 | .k1118,_=>rfl
 | .k1148,_=>rfl
 | .k1151,_=>rfl
 | .k2026,h=>by cases h
 | .k2056,h=>by cases h
theorem thK:∀k x,elK k=true->(avK k x).map AV.thaw=avK (kk (unK k)) (cast (tuK k) x)
 | .k3,x,_=>by kernel_rfl
 | .k4,x,_=>by kernel_rfl
 | .k5,x,_=>by kernel_rfl
 | .k26,x,_=>by kernel_rfl
 | .k35,x,_=>by kernel_rfl
 | .k38,x,_=>by kernel_rfl
 | .k47,x,_=>by kernel_rfl
 | .k53,x,_=>by kernel_rfl
 | .k56,x,_=>by kernel_rfl
 | .k89,x,_=>by kernel_rfl
 | .k103,x,_=>by kernel_rfl
 | .k114,x,_=>by kernel_rfl
 | .k118,x,_=>by kernel_rfl
 | .k129,x,_=>by kernel_rfl
 | .k139,x,_=>by kernel_rfl
 | .k148,x,_=>by kernel_rfl
 | .k151,x,_=>by kernel_rfl
 | .k184,x,_=>by kernel_rfl
 | .k1035,x,_=>by kernel_rfl
 | .k1038,x,_=>by kernel_rfl
 | .k1047,x,_=>by kernel_rfl
 | .k1118,x,_=>by kernel_rfl
 | .k1148,x,_=>by kernel_rfl
 | .k1151,x,_=>by kernel_rfl
 | .k2026,_,h=>by cases h
 | .k2056,_,h=>by cases h
theorem shK:∀k x,elK k=true->Shal (avK k x)
 | .k3,x,_=>jK (cK x)
 | .k4,x,_=>jK (bOs x)
 | .k5,x,_=>jK (cK x)
 | .k26,x,_=>jK (bCc x)
 | .k35,x,_=>jK (bCm x)
 | .k38,x,_=>jK (bBg x)
 | .k47,x,_=>jK (bCw x)
 | .k53,x,_=>jK (aKg x)
 | .k56,x,_=>jK (bCz x)
 | .k89,x,_=>jK (bAl x)
 | .k103,x,_=>jK (aEz x)
 | .k114,x,_=>jK (aXb x)
 | .k118,x,_=>jK (aUv x)
 | .k129,x,_=>jK (aVp x)
 | .k139,x,_=>jK (aZm x)
 | .k148,x,_=>jK (aWy x)
 | .k151,x,_=>jK (aYa x)
 | .k184,x,_=>jK (aFh x)
 | .k1035,x,_=>bPq x
 | .k1038,x,_=>aSc x
 | .k1047,x,_=>bOy x
 | .k1118,x,_=>bNr x
 | .k1148,x,_=>bMz x
 | .k1151,x,_=>bLx x
 | .k2026,_,h=>by cases h
 | .k2056,_,h=>by cases h
theorem ckK{a b:Prop}(h:a)(e:a=b:=by kernel_rfl):b:=e▸h
theorem bWe:∀k,elK k=true->mP (avK k) (λx=>avK (kk (unK k)) (cast (tuK k) x))
 | .k3,_=>ckK (gY (c:=eI .i64) cK cU)
 | .k4,_=>ckK (gY (c:=eB) bOs bGh)
 | .k5,_=>ckK (gY (c:=eI .u8) cK cU)
 | .k26,_=>ckK (gY (c:=fM) bCc qO)
 | .k35,_=>ckK (gY (c:=aHl) bCm aRo)
 | .k38,_=>ckK (gY (c:=eG) bBg aJk)
 | .k47,_=>ckK (gY (c:=aIh) bCw aRw)
 | .k53,_=>ckK (gY (c:=kS) aKg aDi)
 | .k56,_=>ckK (gY (c:=aMw) bCz aRk)
 | .k89,_=>ckK (gY (c:=eU) bAl aRx)
 | .k103,_=>ckK (gY (c:=oR) aEz aAj)
 | .k114,_=>ckK (gY (c:=aJm) aXb aMf)
 | .k118,_=>ckK (gY (c:=aBi) aUv aNl)
 | .k129,_=>ckK (gY (c:=aJp) aVp aMq)
 | .k139,_=>ckK (gY (c:=aJv) aZm aNt)
 | .k148,_=>ckK (gY (c:=aBs) aWy aMr)
 | .k151,_=>ckK (gY (c:=yP) aYa aFn)
 | .k184,_=>ckK (gY (c:=yM) aFh zU)
 | .k1035,_=>ckK bPu
 | .k1038,_=>ckK mQ
 | .k1047,_=>ckK bQw
 | .k1118,_=>ckK bNj
 | .k1148,_=>ckK bOa
 | .k1151,_=>ckK bMa
 | .k2026,h=>by cases h
 | .k2056,h=>by cases h
def tG1:TS1:=⟨tG,λc=>prK (kk c),λc=>mkK (kk c),λc=>avK (kk c)⟩
theorem bXh:∀k x,avK k x=trs tG1 (cI tG (lfK k) (prK k x))
 | .k3,x=>by kernel_rfl
 | .k4,x=>by kernel_rfl
 | .k5,x=>by kernel_rfl
 | .k26,x=>by kernel_rfl
 | .k35,x=>by kernel_rfl
 | .k38,x=>by kernel_rfl
 | .k47,x=>by kernel_rfl
 | .k53,x=>by kernel_rfl
 | .k56,x=>by kernel_rfl
 | .k89,x=>by kernel_rfl
 | .k103,x=>by kernel_rfl
 | .k114,x=>by kernel_rfl
 | .k118,x=>by kernel_rfl
 | .k129,x=>by kernel_rfl
 | .k139,x=>by kernel_rfl
 | .k148,x=>by kernel_rfl
 | .k151,x=>by kernel_rfl
 | .k184,x=>by kernel_rfl
 | .k1035,x=>by kernel_rfl
 | .k1038,x=>by kernel_rfl
 | .k1047,x=>by kernel_rfl
 | .k1118,x=>by kernel_rfl
 | .k1148,x=>by kernel_rfl
 | .k1151,x=>by kernel_rfl
 | .k2026,x=>by kernel_rfl
 | .k2056,x=>by kernel_rfl
theorem bWy:∀k t,prK k (mkK k t)=t
 | .k3,t=>by kernel_rfl
 | .k4,t=>by kernel_rfl
 | .k5,t=>by kernel_rfl
 | .k26,t=>by kernel_rfl
 | .k35,t=>by kernel_rfl
 | .k38,t=>by kernel_rfl
 | .k47,t=>by kernel_rfl
 | .k53,t=>by kernel_rfl
 | .k56,t=>by kernel_rfl
 | .k89,t=>by kernel_rfl
 | .k103,t=>by kernel_rfl
 | .k114,t=>by kernel_rfl
 | .k118,t=>by kernel_rfl
 | .k129,t=>by kernel_rfl
 | .k139,t=>by kernel_rfl
 | .k148,t=>by kernel_rfl
 | .k151,t=>by kernel_rfl
 | .k184,t=>by kernel_rfl
 | .k1035,t=>by kernel_rfl
 | .k1038,t=>by kernel_rfl
 | .k1047,t=>by kernel_rfl
 | .k1118,t=>by kernel_rfl
 | .k1148,t=>by kernel_rfl
 | .k1151,t=>by kernel_rfl
 | .k2026,t=>by kernel_rfl
 | .k2056,t=>by kernel_rfl
theorem bYh:∀k,0<(lfK k).length
 | .k3=>by decide
 | .k4=>by decide
 | .k5=>by decide
 | .k26=>by decide
 | .k35=>by decide
 | .k38=>by decide
 | .k47=>by decide
 | .k53=>by decide
 | .k56=>by decide
 | .k89=>by decide
 | .k103=>by decide
 | .k114=>by decide
 | .k118=>by decide
 | .k129=>by decide
 | .k139=>by decide
 | .k148=>by decide
 | .k151=>by decide
 | .k184=>by decide
 | .k1035=>by decide
 | .k1038=>by decide
 | .k1047=>by decide
 | .k1118=>by decide
 | .k1148=>by decide
 | .k1151=>by decide
 | .k2026=>by decide
 | .k2056=>by decide
def tS:TS2:=⟨tG1,λc x=>bXh (kk c) x,λc t=>bWy (kk c) t,λc=>bYh (kk c),λc x=>clK (kk c) x,λc x=>nrK (kk c) x,λc=>bXq (kk c),λc=>bYn (kk c),λc x=>thK (kk c) x,λc x=>shK (kk c) x,λc=>bWe (kk c),λc=>bYo (kk c)⟩
abbrev Sok(f:Nat)(g:Sg tG):Prop:=SgP tG1 Tryz.prog f (avR tG1 g.r) g.ps [] g.F
abbrev Sjk(f:Nat)(g:Sw tG):Prop:=SjP tG1 Tryz.prog f g.r g.qs g.qs [] TH.emp 0 g.F
abbrev Sop(f:Nat)(g:So tG):Prop:=SoP tG1 Tryz.prog f g.c g.ps [] g.F
def cxL(l:List (Nat×Sx tG)):Ctx tG:=λk=>match l with
 |[]=>none
 |(f,s)::l=>match Nat.beq f k with|true=>some s|false=>cxL l k
def CxP:List (Nat×Sx tG)->Prop
 |[]=>True
 |(f,s)::l=>bUv tG1 Tryz.prog f s/\CxP l
theorem aVa:∀{l:List (Nat×Sx tG)},CxP l->qJ tG1 Tryz.prog (cxL l)
 |[],_=>λf s h=>by simp only[cxL]at h;cases h
 |(f0,s0)::l,hl=>λf s h=>by simp only[cxL]at h;split at h;{rename_i e;have:=Nat.eq_of_beq_eq_true e;subst this;cases h;exact hl.1};{exact aVa hl.2 f s h}
theorem sgx{f:Nat}{g:Sg tG}(l:List (Nat×Sx tG))(hl:CxP l)(A:An)(h:bEu tG1 (cxL l) (xM Tryz.prog f) A g.r g.ps [] 0=g.F)(h1:(jI Tryz.prog f).isSome=true)(h2:(Nat.ble g.ps.length (xM Tryz.prog f).ntmps&&wfR tG g.r&&g.ps.all (wfA tG))=true):Sok f g:=sg (τ:=tS) (aVa hl) f A g.r g.ps g.F h h1 h2
theorem sgy{f:Nat}{g:Sw tG}(l:List (Nat×Sx tG))(hl:CxP l)(A:An)(h:bDf tG1 (cxL l) (xM Tryz.prog f) A g.r g.qs g.qs [] TH.emp 0 0=g.F)(h1:(jI Tryz.prog f).isSome=true)(h2:(Nat.ble g.qs.length (xM Tryz.prog f).ntmps&&wfR tG g.r&&g.qs.all (wfQ tG))=true):Sjk f g:=sgw (τ:=tS) (aVa hl) f A g.r g.qs g.F h h1 h2
theorem kc{a b:Prop}(h:a)(e:a=b:=by kernel_rfl):b:=e▸h
end Go.Proofs.YtkjabgefacfpfaaGreat
