/- The types of the typed machine. Made by program. -/
import Derived.Test.YtkjabgefacfpfaaWT5
import Derived.Test.YtkjabgefacfpfaaDE
import Derived.Test.YtkjabgefacfpfaaProg
namespace Go.Proofs.Ytkjabgefacfpfaa
open Go.RowKit
set_option maxRecDepth 100000
set_option linter.all false
set_option maxHeartbeats 0
inductive TyK where
 |k3
 |k4
 |k5
 |k26
 |k38
 |k41
 |k43
 |k46
 |k66
 |k68
 |k82
 |k109
 |k120
 |k123
 |k132
 |k153
 |k157
 |k1038
 |k1041
 |k1082
 |k1109
 |k1120
 |k1123
 |k2026
 |k2046
def kk:Nat->TyK
 |3=> .k3
 |4=> .k4
 |5=> .k5
 |26=> .k26
 |38=> .k38
 |41=> .k41
 |43=> .k43
 |46=> .k46
 |66=> .k66
 |68=> .k68
 |82=> .k82
 |109=> .k109
 |120=> .k120
 |123=> .k123
 |132=> .k132
 |153=> .k153
 |157=> .k157
 |1038=> .k1038
 |1041=> .k1041
 |1082=> .k1082
 |1109=> .k1109
 |1120=> .k1120
 |1123=> .k1123
 |2026=> .k2026
 |2046=> .k2046
 |_=> .k3
def TyT:TyK->Type
 | .k3=>Int
 | .k4=>Bool
 | .k5=>Int
 | .k26=>DHost
 | .k38=>DCore
 | .k41=>DGuest
 | .k43=>DSlot
 | .k46=>DHost
 | .k66=>DShade
 | .k68=>DLine
 | .k82=>DBare
 | .k109=>Dl20Rd
 | .k120=>DCore
 | .k123=>DGuest
 | .k132=>DEntry
 | .k153=>DSlot
 | .k157=>DIns
 | .k1038=>DCore
 | .k1041=>DGuest
 | .k1082=>DBare
 | .k1109=>Dl20Rd
 | .k1120=>DCore
 | .k1123=>DGuest
 | .k2026=>DHost
 | .k2046=>DHost
@[reducible] def inK : ∀ k, Inhabited (TyT k)
 | .k3=>⟨(default:Int)⟩
 | .k4=>⟨(default:Bool)⟩
 | .k5=>⟨(default:Int)⟩
 | .k26=>⟨(default:DHost)⟩
 | .k38=>⟨(default:DCore)⟩
 | .k41=>⟨(default:DGuest)⟩
 | .k43=>⟨(default:DSlot)⟩
 | .k46=>⟨(default:DHost)⟩
 | .k66=>⟨(default:DShade)⟩
 | .k68=>⟨(default:DLine)⟩
 | .k82=>⟨(default:DBare)⟩
 | .k109=>⟨(default:Dl20Rd)⟩
 | .k120=>⟨(default:DCore)⟩
 | .k123=>⟨(default:DGuest)⟩
 | .k132=>⟨(default:DEntry)⟩
 | .k153=>⟨(default:DSlot)⟩
 | .k157=>⟨(default:DIns)⟩
 | .k1038=>⟨(default:DCore)⟩
 | .k1041=>⟨(default:DGuest)⟩
 | .k1082=>⟨(default:DBare)⟩
 | .k1109=>⟨(default:Dl20Rd)⟩
 | .k1120=>⟨(default:DCore)⟩
 | .k1123=>⟨(default:DGuest)⟩
 | .k2026=>⟨(default:DHost)⟩
 | .k2046=>⟨(default:DHost)⟩
def lfK:TyK->List Lf
 | .k3=>[.i .i64]
 | .k4=>[.b]
 | .k5=>[.i .u8]
 | .k26=>[.row 3,.row 41]
 | .k38=>[.row 3,.i .i64,.i .i64,.i .i64,.i .i64,.b,.i .i64,.i .i64,.i .i64,.b,.b,.b,.b]
 | .k41=>[.b,.row 3,.i .i64,.i .i64,.i .i64,.i .i64,.b,.i .i64,.i .i64,.i .i64,.b,.b,.b,.b,.row 43,.row 3,.row 3]
 | .k43=>[.i .i64,.b,.b]
 | .k46=>[.row 3,.row 123]
 | .k66=>[.b,.b,.b,.i .i64,.i .i64,.b]
 | .k68=>[.i .i64,.i .i64,.b,.b,.b,.i .i64,.i .i64,.b]
 | .k82=>[.row 3,.i .i64,.i .i64,.i .i64,.i .i64,.b,.i .i64,.i .i64,.i .i64,.b,.b,.b,.b,.row 3,.row 3,.row 3]
 | .k109=>[.row 5,.i .i64]
 | .k120=>[.row 3,.i .i64,.i .i64,.i .i64,.i .i64,.b,.i .i64,.i .i64,.i .i64,.b,.b,.b,.b]
 | .k123=>[.b,.row 3,.i .i64,.i .i64,.i .i64,.i .i64,.b,.i .i64,.i .i64,.i .i64,.b,.b,.b,.b,.row 153,.row 3,.row 3]
 | .k132=>[.b,.b,.b,.i .i64]
 | .k153=>[.i .i64,.b,.b]
 | .k157=>[.i .i64,.i .i64,.i .i64]
 | .k1038=>[.own 3,.i .i64,.i .i64,.i .i64,.i .i64,.b,.i .i64,.i .i64,.i .i64,.b,.b,.b,.b]
 | .k1041=>[.b,.own 3,.i .i64,.i .i64,.i .i64,.i .i64,.b,.i .i64,.i .i64,.i .i64,.b,.b,.b,.b,.own 43,.own 3,.own 3]
 | .k1082=>[.own 3,.i .i64,.i .i64,.i .i64,.i .i64,.b,.i .i64,.i .i64,.i .i64,.b,.b,.b,.b,.own 3,.own 3,.own 3]
 | .k1109=>[.own 5,.i .i64]
 | .k1120=>[.own 3,.i .i64,.i .i64,.i .i64,.i .i64,.b,.i .i64,.i .i64,.i .i64,.b,.b,.b,.b]
 | .k1123=>[.b,.own 3,.i .i64,.i .i64,.i .i64,.i .i64,.b,.i .i64,.i .i64,.i .i64,.b,.b,.b,.b,.own 153,.own 3,.own 3]
 | .k2026=>[.row 3,.row 1041]
 | .k2046=>[.row 3,.row 1123]
def unK:TyK->Nat
 | .k3=>3
 | .k4=>4
 | .k5=>5
 | .k26=>26
 | .k38=>38
 | .k41=>41
 | .k43=>43
 | .k46=>46
 | .k66=>66
 | .k68=>68
 | .k82=>82
 | .k109=>109
 | .k120=>120
 | .k123=>123
 | .k132=>132
 | .k153=>153
 | .k157=>157
 | .k1038=>38
 | .k1041=>41
 | .k1082=>82
 | .k1109=>109
 | .k1120=>120
 | .k1123=>123
 | .k2026=>26
 | .k2046=>46
theorem tuK:∀k,TyT k=TyT (kk (unK k))
 | .k3=>rfl
 | .k4=>rfl
 | .k5=>rfl
 | .k26=>rfl
 | .k38=>rfl
 | .k41=>rfl
 | .k43=>rfl
 | .k46=>rfl
 | .k66=>rfl
 | .k68=>rfl
 | .k82=>rfl
 | .k109=>rfl
 | .k120=>rfl
 | .k123=>rfl
 | .k132=>rfl
 | .k153=>rfl
 | .k157=>rfl
 | .k1038=>rfl
 | .k1041=>rfl
 | .k1082=>rfl
 | .k1109=>rfl
 | .k1120=>rfl
 | .k1123=>rfl
 | .k2026=>rfl
 | .k2046=>rfl
def plK:TyK->Bool
 | .k3=>true
 | .k4=>true
 | .k5=>true
 | .k26=>true
 | .k38=>true
 | .k41=>true
 | .k43=>true
 | .k46=>true
 | .k66=>true
 | .k68=>true
 | .k82=>true
 | .k109=>true
 | .k120=>true
 | .k123=>true
 | .k132=>true
 | .k153=>true
 | .k157=>true
 | .k1038=>false
 | .k1041=>false
 | .k1082=>false
 | .k1109=>false
 | .k1120=>false
 | .k1123=>false
 | .k2026=>false
 | .k2046=>false
def elK:TyK->Bool
 | .k3=>true
 | .k4=>true
 | .k5=>true
 | .k26=>true
 | .k38=>true
 | .k41=>true
 | .k43=>true
 | .k46=>true
 | .k66=>true
 | .k68=>true
 | .k82=>true
 | .k109=>true
 | .k120=>true
 | .k123=>true
 | .k132=>true
 | .k153=>true
 | .k157=>true
 | .k1038=>true
 | .k1041=>true
 | .k1082=>true
 | .k1109=>true
 | .k1120=>true
 | .k1123=>true
 | .k2026=>false
 | .k2046=>false
def tG:TS:=⟨λc=>TyT (kk c),λc=>inK (kk c),λc=>c%1000,λc=>lfK (kk c),λc=>unK (kk c),λc=>c+1000,λc=>tuK (kk c),λc=>plK (kk c),λc=>elK (kk c)⟩
def prK:∀k,TyT k->Tup tG (lfK k)
 | .k3,x=>(x:Int)
 | .k4,x=>(x:Bool)
 | .k5,x=>(x:Int)
 | .k26,x=>((x:DHost).Words,(x:DHost).Guests)
 | .k38,x=>((x:DCore).Regs,(x:DCore).Pc,(x:DCore).Root,(x:DCore).Vector,(x:DCore).Saved,(x:DCore).SavedUser,(x:DCore).Cause,(x:DCore).Bad,(x:DCore).Timer,(x:DCore).Waits,(x:DCore).User,(x:DCore).On,(x:DCore).Stopped)
 | .k41,x=>((x:DGuest).Live,(x:DGuest).C.Regs,(x:DGuest).C.Pc,(x:DGuest).C.Root,(x:DGuest).C.Vector,(x:DGuest).C.Saved,(x:DGuest).C.SavedUser,(x:DGuest).C.Cause,(x:DGuest).C.Bad,(x:DGuest).C.Timer,(x:DGuest).C.Waits,(x:DGuest).C.User,(x:DGuest).C.On,(x:DGuest).C.Stopped,(x:DGuest).Pages,(x:DGuest).In,(x:DGuest).Out)
 | .k43,x=>((x:DSlot).Frame,(x:DSlot).Write,(x:DSlot).Dirty)
 | .k46,x=>((x:DHost).Words,(x:DHost).Guests)
 | .k66,x=>((x:DShade).There,(x:DShade).Write,(x:DShade).User,(x:DShade).Page,(x:DShade).Frame,(x:DShade).Ready)
 | .k68,x=>((x:DLine).Tag,(x:DLine).At,(x:DLine).What.There,(x:DLine).What.Write,(x:DLine).What.User,(x:DLine).What.Page,(x:DLine).What.Frame,(x:DLine).What.Ready)
 | .k82,x=>((x:DBare).C.Regs,(x:DBare).C.Pc,(x:DBare).C.Root,(x:DBare).C.Vector,(x:DBare).C.Saved,(x:DBare).C.SavedUser,(x:DBare).C.Cause,(x:DBare).C.Bad,(x:DBare).C.Timer,(x:DBare).C.Waits,(x:DBare).C.User,(x:DBare).C.On,(x:DBare).C.Stopped,(x:DBare).Mem,(x:DBare).In,(x:DBare).Out)
 | .k109,x=>((x:Dl20Rd).b,(x:Dl20Rd).p)
 | .k120,x=>((x:DCore).Regs,(x:DCore).Pc,(x:DCore).Root,(x:DCore).Vector,(x:DCore).Saved,(x:DCore).SavedUser,(x:DCore).Cause,(x:DCore).Bad,(x:DCore).Timer,(x:DCore).Waits,(x:DCore).User,(x:DCore).On,(x:DCore).Stopped)
 | .k123,x=>((x:DGuest).Live,(x:DGuest).C.Regs,(x:DGuest).C.Pc,(x:DGuest).C.Root,(x:DGuest).C.Vector,(x:DGuest).C.Saved,(x:DGuest).C.SavedUser,(x:DGuest).C.Cause,(x:DGuest).C.Bad,(x:DGuest).C.Timer,(x:DGuest).C.Waits,(x:DGuest).C.User,(x:DGuest).C.On,(x:DGuest).C.Stopped,(x:DGuest).Pages,(x:DGuest).In,(x:DGuest).Out)
 | .k132,x=>((x:DEntry).There,(x:DEntry).Write,(x:DEntry).User,(x:DEntry).Page)
 | .k153,x=>((x:DSlot).Frame,(x:DSlot).Write,(x:DSlot).Dirty)
 | .k157,x=>((x:DIns).Op,(x:DIns).A,(x:DIns).N)
 | .k1038,x=>((x:DCore).Regs,(x:DCore).Pc,(x:DCore).Root,(x:DCore).Vector,(x:DCore).Saved,(x:DCore).SavedUser,(x:DCore).Cause,(x:DCore).Bad,(x:DCore).Timer,(x:DCore).Waits,(x:DCore).User,(x:DCore).On,(x:DCore).Stopped)
 | .k1041,x=>((x:DGuest).Live,(x:DGuest).C.Regs,(x:DGuest).C.Pc,(x:DGuest).C.Root,(x:DGuest).C.Vector,(x:DGuest).C.Saved,(x:DGuest).C.SavedUser,(x:DGuest).C.Cause,(x:DGuest).C.Bad,(x:DGuest).C.Timer,(x:DGuest).C.Waits,(x:DGuest).C.User,(x:DGuest).C.On,(x:DGuest).C.Stopped,(x:DGuest).Pages,(x:DGuest).In,(x:DGuest).Out)
 | .k1082,x=>((x:DBare).C.Regs,(x:DBare).C.Pc,(x:DBare).C.Root,(x:DBare).C.Vector,(x:DBare).C.Saved,(x:DBare).C.SavedUser,(x:DBare).C.Cause,(x:DBare).C.Bad,(x:DBare).C.Timer,(x:DBare).C.Waits,(x:DBare).C.User,(x:DBare).C.On,(x:DBare).C.Stopped,(x:DBare).Mem,(x:DBare).In,(x:DBare).Out)
 | .k1109,x=>((x:Dl20Rd).b,(x:Dl20Rd).p)
 | .k1120,x=>((x:DCore).Regs,(x:DCore).Pc,(x:DCore).Root,(x:DCore).Vector,(x:DCore).Saved,(x:DCore).SavedUser,(x:DCore).Cause,(x:DCore).Bad,(x:DCore).Timer,(x:DCore).Waits,(x:DCore).User,(x:DCore).On,(x:DCore).Stopped)
 | .k1123,x=>((x:DGuest).Live,(x:DGuest).C.Regs,(x:DGuest).C.Pc,(x:DGuest).C.Root,(x:DGuest).C.Vector,(x:DGuest).C.Saved,(x:DGuest).C.SavedUser,(x:DGuest).C.Cause,(x:DGuest).C.Bad,(x:DGuest).C.Timer,(x:DGuest).C.Waits,(x:DGuest).C.User,(x:DGuest).C.On,(x:DGuest).C.Stopped,(x:DGuest).Pages,(x:DGuest).In,(x:DGuest).Out)
 | .k2026,x=>((x:DHost).Words,(x:DHost).Guests)
 | .k2046,x=>((x:DHost).Words,(x:DHost).Guests)
def mkK:∀k,Tup tG (lfK k)->TyT k
 | .k3,a0=>a0
 | .k4,a0=>a0
 | .k5,a0=>a0
 | .k26,(a0,a1)=>(DHost.mk a0 a1)
 | .k38,(a0,a1,a2,a3,a4,a5,a6,a7,a8,a9,a10,a11,a12)=>(DCore.mk a0 a1 a2 a3 a4 a5 a6 a7 a8 a9 a10 a11 a12)
 | .k41,(a0,a1,a2,a3,a4,a5,a6,a7,a8,a9,a10,a11,a12,a13,a14,a15,a16)=>(DGuest.mk a0 (DCore.mk a1 a2 a3 a4 a5 a6 a7 a8 a9 a10 a11 a12 a13) a14 a15 a16)
 | .k43,(a0,a1,a2)=>(DSlot.mk a0 a1 a2)
 | .k46,(a0,a1)=>(DHost.mk a0 a1)
 | .k66,(a0,a1,a2,a3,a4,a5)=>(DShade.mk a0 a1 a2 a3 a4 a5)
 | .k68,(a0,a1,a2,a3,a4,a5,a6,a7)=>(DLine.mk a0 a1 (DShade.mk a2 a3 a4 a5 a6 a7))
 | .k82,(a0,a1,a2,a3,a4,a5,a6,a7,a8,a9,a10,a11,a12,a13,a14,a15)=>(DBare.mk (DCore.mk a0 a1 a2 a3 a4 a5 a6 a7 a8 a9 a10 a11 a12) a13 a14 a15)
 | .k109,(a0,a1)=>(Dl20Rd.mk a0 a1)
 | .k120,(a0,a1,a2,a3,a4,a5,a6,a7,a8,a9,a10,a11,a12)=>(DCore.mk a0 a1 a2 a3 a4 a5 a6 a7 a8 a9 a10 a11 a12)
 | .k123,(a0,a1,a2,a3,a4,a5,a6,a7,a8,a9,a10,a11,a12,a13,a14,a15,a16)=>(DGuest.mk a0 (DCore.mk a1 a2 a3 a4 a5 a6 a7 a8 a9 a10 a11 a12 a13) a14 a15 a16)
 | .k132,(a0,a1,a2,a3)=>(DEntry.mk a0 a1 a2 a3)
 | .k153,(a0,a1,a2)=>(DSlot.mk a0 a1 a2)
 | .k157,(a0,a1,a2)=>(DIns.mk a0 a1 a2)
 | .k1038,(a0,a1,a2,a3,a4,a5,a6,a7,a8,a9,a10,a11,a12)=>(DCore.mk a0 a1 a2 a3 a4 a5 a6 a7 a8 a9 a10 a11 a12)
 | .k1041,(a0,a1,a2,a3,a4,a5,a6,a7,a8,a9,a10,a11,a12,a13,a14,a15,a16)=>(DGuest.mk a0 (DCore.mk a1 a2 a3 a4 a5 a6 a7 a8 a9 a10 a11 a12 a13) a14 a15 a16)
 | .k1082,(a0,a1,a2,a3,a4,a5,a6,a7,a8,a9,a10,a11,a12,a13,a14,a15)=>(DBare.mk (DCore.mk a0 a1 a2 a3 a4 a5 a6 a7 a8 a9 a10 a11 a12) a13 a14 a15)
 | .k1109,(a0,a1)=>(Dl20Rd.mk a0 a1)
 | .k1120,(a0,a1,a2,a3,a4,a5,a6,a7,a8,a9,a10,a11,a12)=>(DCore.mk a0 a1 a2 a3 a4 a5 a6 a7 a8 a9 a10 a11 a12)
 | .k1123,(a0,a1,a2,a3,a4,a5,a6,a7,a8,a9,a10,a11,a12,a13,a14,a15,a16)=>(DGuest.mk a0 (DCore.mk a1 a2 a3 a4 a5 a6 a7 a8 a9 a10 a11 a12 a13) a14 a15 a16)
 | .k2026,(a0,a1)=>(DHost.mk a0 a1)
 | .k2046,(a0,a1)=>(DHost.mk a0 a1)
def aWq(x:DHost):List AV:=[.bor (List.length x.Words) (fl (eI .i64) x.Words),.bor (List.length x.Guests) (fl rG x.Guests)]
theorem bAz:∀x,aG (aWq x)=true:=λx=>by simp only[aWq,aG,AV.noRef,Bool.and_self,aB bX,aB pQ]
def aYa(x:DHost):List AV:=[.bor (List.length x.Words) (fl (eI .i64) x.Words),.bor (List.length x.Guests) (fl uC x.Guests)]
theorem bBg:∀x,aG (aYa x)=true:=λx=>by simp only[aYa,aG,AV.noRef,Bool.and_self,aB bX,aB tW]
def avK:∀k,TyT k->List AV
 | .k3=>eI .i64
 | .k4=>eB
 | .k5=>eI .u8
 | .k26=>aEl
 | .k38=>zW
 | .k41=>xL
 | .k43=>mI
 | .k46=>aDi
 | .k66=>aGw
 | .k68=>aHi
 | .k82=>zO
 | .k109=>uH
 | .k120=>uE
 | .k123=>sA
 | .k132=>aBf
 | .k153=>sD
 | .k157=>aBp
 | .k1038=>aEm
 | .k1041=>rG
 | .k1082=>aEj
 | .k1109=>xT
 | .k1120=>wP
 | .k1123=>uC
 | .k2026=>aWq
 | .k2046=>aYa
theorem clK:∀k x,plK k=true->aT (avK k x)=true
 | .k3,x,_=>dC x
 | .k4,x,_=>aZv x
 | .k5,x,_=>dC x
 | .k26,x,_=>aPx x
 | .k38,x,_=>aQe x
 | .k41,x,_=>aHf x
 | .k43,x,_=>aBh x
 | .k46,x,_=>aQq x
 | .k66,x,_=>aOk x
 | .k68,x,_=>aOv x
 | .k82,x,_=>aOj x
 | .k109,x,_=>aKg x
 | .k120,x,_=>aKc x
 | .k123,x,_=>aCw x
 | .k132,x,_=>aLs x
 | .k153,x,_=>wQ x
 | .k157,x,_=>aMc x
 | .k1038,_,h=>by cases h
 | .k1041,_,h=>by cases h
 | .k1082,_,h=>by cases h
 | .k1109,_,h=>by cases h
 | .k1120,_,h=>by cases h
 | .k1123,_,h=>by cases h
 | .k2026,_,h=>by cases h
 | .k2046,_,h=>by cases h
theorem nrK:∀k x,aG (avK k x)=true
 | .k3,x=>bX x
 | .k4,x=>aRh x
 | .k5,x=>bX x
 | .k26,x=>aBg x
 | .k38,x=>aBc x
 | .k41,x=>vP x
 | .k43,x=>jY x
 | .k46,x=>aBa x
 | .k66,x=>aBj x
 | .k68,x=>aBl x
 | .k82,x=>aBn x
 | .k109,x=>xA x
 | .k120,x=>xF x
 | .k123,x=>tQ x
 | .k132,x=>wW x
 | .k153,x=>pL x
 | .k157,x=>xE x
 | .k1038,x=>aAx x
 | .k1041,x=>pQ x
 | .k1082,x=>aAz x
 | .k1109,x=>wS x
 | .k1120,x=>xD x
 | .k1123,x=>tW x
 | .k2026,x=>bAz x
 | .k2046,x=>bBg x
theorem bHl:∀k,plK k=true->(lfK k).all (plL tG)=true
 | .k3,_=>rfl
 | .k4,_=>rfl
 | .k5,_=>rfl
 | .k26,_=>rfl
 | .k38,_=>rfl
 | .k41,_=>rfl
 | .k43,_=>rfl
 | .k46,_=>rfl
 | .k66,_=>rfl
 | .k68,_=>rfl
 | .k82,_=>rfl
 | .k109,_=>rfl
 | .k120,_=>rfl
 | .k123,_=>rfl
 | .k132,_=>rfl
 | .k153,_=>rfl
 | .k157,_=>rfl
 | .k1038,h=>by cases h
 | .k1041,h=>by cases h
 | .k1082,h=>by cases h
 | .k1109,h=>by cases h
 | .k1120,h=>by cases h
 | .k1123,h=>by cases h
 | .k2026,h=>by cases h
 | .k2046,h=>by cases h
theorem bGs:∀k,elK k=true->(lfK k).all (elL tG)=true
 | .k3,_=>rfl
 | .k4,_=>rfl
 | .k5,_=>rfl
 | .k26,_=>rfl
 | .k38,_=>rfl
 | .k41,_=>rfl
 | .k43,_=>rfl
 | .k46,_=>rfl
 | .k66,_=>rfl
 | .k68,_=>rfl
 | .k82,_=>rfl
 | .k109,_=>rfl
 | .k120,_=>rfl
 | .k123,_=>rfl
 | .k132,_=>rfl
 | .k153,_=>rfl
 | .k157,_=>rfl
 | .k1038,_=>rfl
 | .k1041,_=>rfl
 | .k1082,_=>rfl
 | .k1109,_=>rfl
 | .k1120,_=>rfl
 | .k1123,_=>rfl
 | .k2026,h=>by cases h
 | .k2046,h=>by cases h
theorem bGr:∀k,elK k=true->plK (kk (unK k))=true
 | .k3,_=>rfl
 | .k4,_=>rfl
 | .k5,_=>rfl
 | .k26,_=>rfl
 | .k38,_=>rfl
 | .k41,_=>rfl
 | .k43,_=>rfl
 | .k46,_=>rfl
 | .k66,_=>rfl
 | .k68,_=>rfl
 | .k82,_=>rfl
 | .k109,_=>rfl
 | .k120,_=>rfl
 | .k123,_=>rfl
 | .k132,_=>rfl
 | .k153,_=>rfl
 | .k157,_=>rfl
 | .k1038,_=>rfl
 | .k1041,_=>rfl
 | .k1082,_=>rfl
 | .k1109,_=>rfl
 | .k1120,_=>rfl
 | .k1123,_=>rfl
 | .k2026,h=>by cases h
 | .k2046,h=>by cases h
theorem thK:∀k x,elK k=true->(avK k x).map AV.thaw=avK (kk (unK k)) (cast (tuK k) x)
 | .k3,x,_=>by kernel_rfl
 | .k4,x,_=>by kernel_rfl
 | .k5,x,_=>by kernel_rfl
 | .k26,x,_=>by kernel_rfl
 | .k38,x,_=>by kernel_rfl
 | .k41,x,_=>by kernel_rfl
 | .k43,x,_=>by kernel_rfl
 | .k46,x,_=>by kernel_rfl
 | .k66,x,_=>by kernel_rfl
 | .k68,x,_=>by kernel_rfl
 | .k82,x,_=>by kernel_rfl
 | .k109,x,_=>by kernel_rfl
 | .k120,x,_=>by kernel_rfl
 | .k123,x,_=>by kernel_rfl
 | .k132,x,_=>by kernel_rfl
 | .k153,x,_=>by kernel_rfl
 | .k157,x,_=>by kernel_rfl
 | .k1038,x,_=>by kernel_rfl
 | .k1041,x,_=>by kernel_rfl
 | .k1082,x,_=>by kernel_rfl
 | .k1109,x,_=>by kernel_rfl
 | .k1120,x,_=>by kernel_rfl
 | .k1123,x,_=>by kernel_rfl
 | .k2026,_,h=>by cases h
 | .k2046,_,h=>by cases h
theorem shK:∀k x,elK k=true->Shal (avK k x)
 | .k3,x,_=>gC (cN x)
 | .k4,x,_=>gC (aZl x)
 | .k5,x,_=>gC (cN x)
 | .k26,x,_=>gC (aOg x)
 | .k38,x,_=>gC (aQs x)
 | .k41,x,_=>gC (aRa x)
 | .k43,x,_=>gC (aAy x)
 | .k46,x,_=>gC (aPy x)
 | .k66,x,_=>gC (aPe x)
 | .k68,x,_=>gC (aPn x)
 | .k82,x,_=>gC (aQx x)
 | .k109,x,_=>gC (aKu x)
 | .k120,x,_=>gC (aLi x)
 | .k123,x,_=>gC (aMe x)
 | .k132,x,_=>gC (aNo x)
 | .k153,x,_=>gC (yC x)
 | .k157,x,_=>gC (aKp x)
 | .k1038,x,_=>bBb x
 | .k1041,x,_=>bBf x
 | .k1082,x,_=>bAj x
 | .k1109,x,_=>aXr x
 | .k1120,x,_=>aXa x
 | .k1123,x,_=>aXf x
 | .k2026,_,h=>by cases h
 | .k2046,_,h=>by cases h
theorem ckK{a b:Prop}(h:a)(e:a=b:=by kernel_rfl):b:=e▸h
theorem bGf:∀k,elK k=true->iN (avK k) (λx=>avK (kk (unK k)) (cast (tuK k) x))
 | .k3,_=>ckK (eR (c:=eI .i64) cN dC)
 | .k4,_=>ckK (eR (c:=eB) aZl aZv)
 | .k5,_=>ckK (eR (c:=eI .u8) cN dC)
 | .k26,_=>ckK (eR (c:=aEl) aOg aPx)
 | .k38,_=>ckK (eR (c:=zW) aQs aQe)
 | .k41,_=>ckK (eR (c:=xL) aRa aHf)
 | .k43,_=>ckK (eR (c:=mI) aAy aBh)
 | .k46,_=>ckK (eR (c:=aDi) aPy aQq)
 | .k66,_=>ckK (eR (c:=aGw) aPe aOk)
 | .k68,_=>ckK (eR (c:=aHi) aPn aOv)
 | .k82,_=>ckK (eR (c:=zO) aQx aOj)
 | .k109,_=>ckK (eR (c:=uH) aKu aKg)
 | .k120,_=>ckK (eR (c:=uE) aLi aKc)
 | .k123,_=>ckK (eR (c:=sA) aMe aCw)
 | .k132,_=>ckK (eR (c:=aBf) aNo aLs)
 | .k153,_=>ckK (eR (c:=sD) yC wQ)
 | .k157,_=>ckK (eR (c:=aBp) aKp aMc)
 | .k1038,_=>ckK bAl
 | .k1041,_=>ckK bBp
 | .k1082,_=>ckK bAk
 | .k1109,_=>ckK aXd
 | .k1120,_=>ckK aYr
 | .k1123,_=>ckK aYn
 | .k2026,h=>by cases h
 | .k2046,h=>by cases h
def tG1:TS1:=⟨tG,λc=>prK (kk c),λc=>mkK (kk c),λc=>avK (kk c)⟩
theorem bGu:∀k x,avK k x=trs tG1 (bJ tG (lfK k) (prK k x))
 | .k3,x=>by kernel_rfl
 | .k4,x=>by kernel_rfl
 | .k5,x=>by kernel_rfl
 | .k26,x=>by kernel_rfl
 | .k38,x=>by kernel_rfl
 | .k41,x=>by kernel_rfl
 | .k43,x=>by kernel_rfl
 | .k46,x=>by kernel_rfl
 | .k66,x=>by kernel_rfl
 | .k68,x=>by kernel_rfl
 | .k82,x=>by kernel_rfl
 | .k109,x=>by kernel_rfl
 | .k120,x=>by kernel_rfl
 | .k123,x=>by kernel_rfl
 | .k132,x=>by kernel_rfl
 | .k153,x=>by kernel_rfl
 | .k157,x=>by kernel_rfl
 | .k1038,x=>by kernel_rfl
 | .k1041,x=>by kernel_rfl
 | .k1082,x=>by kernel_rfl
 | .k1109,x=>by kernel_rfl
 | .k1120,x=>by kernel_rfl
 | .k1123,x=>by kernel_rfl
 | .k2026,x=>by kernel_rfl
 | .k2046,x=>by kernel_rfl
theorem bGy:∀k t,prK k (mkK k t)=t
 | .k3,t=>by kernel_rfl
 | .k4,t=>by kernel_rfl
 | .k5,t=>by kernel_rfl
 | .k26,t=>by kernel_rfl
 | .k38,t=>by kernel_rfl
 | .k41,t=>by kernel_rfl
 | .k43,t=>by kernel_rfl
 | .k46,t=>by kernel_rfl
 | .k66,t=>by kernel_rfl
 | .k68,t=>by kernel_rfl
 | .k82,t=>by kernel_rfl
 | .k109,t=>by kernel_rfl
 | .k120,t=>by kernel_rfl
 | .k123,t=>by kernel_rfl
 | .k132,t=>by kernel_rfl
 | .k153,t=>by kernel_rfl
 | .k157,t=>by kernel_rfl
 | .k1038,t=>by kernel_rfl
 | .k1041,t=>by kernel_rfl
 | .k1082,t=>by kernel_rfl
 | .k1109,t=>by kernel_rfl
 | .k1120,t=>by kernel_rfl
 | .k1123,t=>by kernel_rfl
 | .k2026,t=>by kernel_rfl
 | .k2046,t=>by kernel_rfl
theorem bHn:∀k,0<(lfK k).length
 | .k3=>by decide
 | .k4=>by decide
 | .k5=>by decide
 | .k26=>by decide
 | .k38=>by decide
 | .k41=>by decide
 | .k43=>by decide
 | .k46=>by decide
 | .k66=>by decide
 | .k68=>by decide
 | .k82=>by decide
 | .k109=>by decide
 | .k120=>by decide
 | .k123=>by decide
 | .k132=>by decide
 | .k153=>by decide
 | .k157=>by decide
 | .k1038=>by decide
 | .k1041=>by decide
 | .k1082=>by decide
 | .k1109=>by decide
 | .k1120=>by decide
 | .k1123=>by decide
 | .k2026=>by decide
 | .k2046=>by decide
def tS:TS2:=⟨tG1,λc x=>bGu (kk c) x,λc t=>bGy (kk c) t,λc=>bHn (kk c),λc x=>clK (kk c) x,λc x=>nrK (kk c) x,λc=>bHl (kk c),λc=>bGs (kk c),λc x=>thK (kk c) x,λc x=>shK (kk c) x,λc=>bGf (kk c),λc=>bGr (kk c)⟩
abbrev Sok(f:Nat)(g:Sg tG):Prop:=SgP tG1 Try.prog f (avR tG1 g.r) g.ps [] g.F
abbrev Sjk(f:Nat)(g:Sw tG):Prop:=SjP tG1 Try.prog f g.r g.qs g.qs [] TH.emp 0 g.F
abbrev Sop(f:Nat)(g:So tG):Prop:=SoP tG1 Try.prog f g.c g.ps [] g.F
def cxL(l:List (Nat×Sx tG)):Ctx tG:=λk=>match l with
 |[]=>none
 |(f,s)::l=>match Nat.beq f k with|true=>some s|false=>cxL l k
def CxP:List (Nat×Sx tG)->Prop
 |[]=>True
 |(f,s)::l=>bCd tG1 Try.prog f s/\CxP l
theorem aKd:∀{l:List (Nat×Sx tG)},CxP l->lV tG1 Try.prog (cxL l)
 |[],_=>λf s h=>by simp only[cxL]at h;cases h
 |(f0,s0)::l,hl=>λf s h=>by simp only[cxL]at h;split at h;{rename_i e;have:=Nat.eq_of_beq_eq_true e;subst this;cases h;exact hl.1};{exact aKd hl.2 f s h}
theorem sgx{f:Nat}{g:Sg tG}(l:List (Nat×Sx tG))(hl:CxP l)(A:An)(h:aTb tG1 (cxL l) (qZ Try.prog f) A g.r g.ps [] 0=g.F)(h1:(fF Try.prog f).isSome=true)(h2:(Nat.ble g.ps.length (qZ Try.prog f).ntmps&&wfR tG g.r&&g.ps.all (wfA tG))=true):Sok f g:=sg (τ:=tS) (aKd hl) f A g.r g.ps g.F h h1 h2
theorem sgy{f:Nat}{g:Sw tG}(l:List (Nat×Sx tG))(hl:CxP l)(A:An)(h:aRd tG1 (cxL l) (qZ Try.prog f) A g.r g.qs g.qs [] TH.emp 0 0=g.F)(h1:(fF Try.prog f).isSome=true)(h2:(Nat.ble g.qs.length (qZ Try.prog f).ntmps&&wfR tG g.r&&g.qs.all (wfQ tG))=true):Sjk f g:=sgw (τ:=tS) (aKd hl) f A g.r g.qs g.F h h1 h2
theorem kc{a b:Prop}(h:a)(e:a=b:=by kernel_rfl):b:=e▸h
end Go.Proofs.Ytkjabgefacfpfaa
