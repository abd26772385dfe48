/- The types of the typed machine. Made by program. -/
import Derived.Test.YtobbmlnagjhofaaWT5
import Derived.Test.YtobbmlnagjhofaaDE
import Derived.Test.YtobbmlnagjhofaaProg
namespace Go.Proofs.Ytobbmlnagjhofaa
open Go.RowKit
set_option maxRecDepth 100000
set_option linter.all false
set_option maxHeartbeats 0
inductive TyK where
 |k3
 |k4
 |k5
 |k26
 |k34
 |k36
 |k55
 |k60
 |k62
 |k80
 |k83
 |k107
 |k124
 |k134
 |k136
 |k145
 |k1034
 |k1036
 |k1060
 |k1062
 |k1080
 |k1107
 |k1124
 |k2026
 |k2055
def kk:Nat->TyK
 |3=> .k3
 |4=> .k4
 |5=> .k5
 |26=> .k26
 |34=> .k34
 |36=> .k36
 |55=> .k55
 |60=> .k60
 |62=> .k62
 |80=> .k80
 |83=> .k83
 |107=> .k107
 |124=> .k124
 |134=> .k134
 |136=> .k136
 |145=> .k145
 |1034=> .k1034
 |1036=> .k1036
 |1060=> .k1060
 |1062=> .k1062
 |1080=> .k1080
 |1107=> .k1107
 |1124=> .k1124
 |2026=> .k2026
 |2055=> .k2055
 |_=> .k3
def TyT:TyK->Type
 | .k3=>Int
 | .k4=>Bool
 | .k5=>Int
 | .k26=>DHost
 | .k34=>DCore
 | .k36=>DBare
 | .k55=>DHost
 | .k60=>DCore
 | .k62=>DBare
 | .k80=>DGuest
 | .k83=>DSlot
 | .k107=>Dl20Rd
 | .k124=>DGuest
 | .k134=>DEntry
 | .k136=>DIns
 | .k145=>DSlot
 | .k1034=>DCore
 | .k1036=>DBare
 | .k1060=>DCore
 | .k1062=>DBare
 | .k1080=>DGuest
 | .k1107=>Dl20Rd
 | .k1124=>DGuest
 | .k2026=>DHost
 | .k2055=>DHost
@[reducible] def inK : ∀ k, Inhabited (TyT k)
 | .k3=>⟨(default:Int)⟩
 | .k4=>⟨(default:Bool)⟩
 | .k5=>⟨(default:Int)⟩
 | .k26=>⟨(default:DHost)⟩
 | .k34=>⟨(default:DCore)⟩
 | .k36=>⟨(default:DBare)⟩
 | .k55=>⟨(default:DHost)⟩
 | .k60=>⟨(default:DCore)⟩
 | .k62=>⟨(default:DBare)⟩
 | .k80=>⟨(default:DGuest)⟩
 | .k83=>⟨(default:DSlot)⟩
 | .k107=>⟨(default:Dl20Rd)⟩
 | .k124=>⟨(default:DGuest)⟩
 | .k134=>⟨(default:DEntry)⟩
 | .k136=>⟨(default:DIns)⟩
 | .k145=>⟨(default:DSlot)⟩
 | .k1034=>⟨(default:DCore)⟩
 | .k1036=>⟨(default:DBare)⟩
 | .k1060=>⟨(default:DCore)⟩
 | .k1062=>⟨(default:DBare)⟩
 | .k1080=>⟨(default:DGuest)⟩
 | .k1107=>⟨(default:Dl20Rd)⟩
 | .k1124=>⟨(default:DGuest)⟩
 | .k2026=>⟨(default:DHost)⟩
 | .k2055=>⟨(default:DHost)⟩
def lfK:TyK->List Lf
 | .k3=>[.i .i64]
 | .k4=>[.b]
 | .k5=>[.i .u8]
 | .k26=>[.row 3,.row 80]
 | .k34=>[.row 3,.i .i64,.i .i64,.i .i64,.i .i64,.b,.i .i64,.i .i64,.i .i64,.b,.b,.b,.b]
 | .k36=>[.row 3,.i .i64,.i .i64,.i .i64,.i .i64,.b,.i .i64,.i .i64,.i .i64,.b,.b,.b,.b,.row 3,.row 3,.row 3]
 | .k55=>[.row 3,.row 124]
 | .k60=>[.row 3,.i .i64,.i .i64,.i .i64,.i .i64,.b,.i .i64,.i .i64,.i .i64,.b,.b,.b,.b]
 | .k62=>[.row 3,.i .i64,.i .i64,.i .i64,.i .i64,.b,.i .i64,.i .i64,.i .i64,.b,.b,.b,.b,.row 3,.row 3,.row 3]
 | .k80=>[.b,.row 3,.i .i64,.i .i64,.i .i64,.i .i64,.b,.i .i64,.i .i64,.i .i64,.b,.b,.b,.b,.row 83,.row 3,.row 3]
 | .k83=>[.i .i64,.b,.b]
 | .k107=>[.row 5,.i .i64]
 | .k124=>[.b,.row 3,.i .i64,.i .i64,.i .i64,.i .i64,.b,.i .i64,.i .i64,.i .i64,.b,.b,.b,.b,.row 145,.row 3,.row 3]
 | .k134=>[.b,.b,.b,.i .i64]
 | .k136=>[.i .i64,.i .i64,.i .i64]
 | .k145=>[.i .i64,.b,.b]
 | .k1034=>[.own 3,.i .i64,.i .i64,.i .i64,.i .i64,.b,.i .i64,.i .i64,.i .i64,.b,.b,.b,.b]
 | .k1036=>[.own 3,.i .i64,.i .i64,.i .i64,.i .i64,.b,.i .i64,.i .i64,.i .i64,.b,.b,.b,.b,.own 3,.own 3,.own 3]
 | .k1060=>[.own 3,.i .i64,.i .i64,.i .i64,.i .i64,.b,.i .i64,.i .i64,.i .i64,.b,.b,.b,.b]
 | .k1062=>[.own 3,.i .i64,.i .i64,.i .i64,.i .i64,.b,.i .i64,.i .i64,.i .i64,.b,.b,.b,.b,.own 3,.own 3,.own 3]
 | .k1080=>[.b,.own 3,.i .i64,.i .i64,.i .i64,.i .i64,.b,.i .i64,.i .i64,.i .i64,.b,.b,.b,.b,.own 83,.own 3,.own 3]
 | .k1107=>[.own 5,.i .i64]
 | .k1124=>[.b,.own 3,.i .i64,.i .i64,.i .i64,.i .i64,.b,.i .i64,.i .i64,.i .i64,.b,.b,.b,.b,.own 145,.own 3,.own 3]
 | .k2026=>[.row 3,.row 1080]
 | .k2055=>[.row 3,.row 1124]
def unK:TyK->Nat
 | .k3=>3
 | .k4=>4
 | .k5=>5
 | .k26=>26
 | .k34=>34
 | .k36=>36
 | .k55=>55
 | .k60=>60
 | .k62=>62
 | .k80=>80
 | .k83=>83
 | .k107=>107
 | .k124=>124
 | .k134=>134
 | .k136=>136
 | .k145=>145
 | .k1034=>34
 | .k1036=>36
 | .k1060=>60
 | .k1062=>62
 | .k1080=>80
 | .k1107=>107
 | .k1124=>124
 | .k2026=>26
 | .k2055=>55
theorem tuK:∀k,TyT k=TyT (kk (unK k))
 | .k3=>rfl
 | .k4=>rfl
 | .k5=>rfl
 | .k26=>rfl
 | .k34=>rfl
 | .k36=>rfl
 | .k55=>rfl
 | .k60=>rfl
 | .k62=>rfl
 | .k80=>rfl
 | .k83=>rfl
 | .k107=>rfl
 | .k124=>rfl
 | .k134=>rfl
 | .k136=>rfl
 | .k145=>rfl
 | .k1034=>rfl
 | .k1036=>rfl
 | .k1060=>rfl
 | .k1062=>rfl
 | .k1080=>rfl
 | .k1107=>rfl
 | .k1124=>rfl
 | .k2026=>rfl
 | .k2055=>rfl
def plK:TyK->Bool
 | .k3=>true
 | .k4=>true
 | .k5=>true
 | .k26=>true
 | .k34=>true
 | .k36=>true
 | .k55=>true
 | .k60=>true
 | .k62=>true
 | .k80=>true
 | .k83=>true
 | .k107=>true
 | .k124=>true
 | .k134=>true
 | .k136=>true
 | .k145=>true
 | .k1034=>false
 | .k1036=>false
 | .k1060=>false
 | .k1062=>false
 | .k1080=>false
 | .k1107=>false
 | .k1124=>false
 | .k2026=>false
 | .k2055=>false
def elK:TyK->Bool
 | .k3=>true
 | .k4=>true
 | .k5=>true
 | .k26=>true
 | .k34=>true
 | .k36=>true
 | .k55=>true
 | .k60=>true
 | .k62=>true
 | .k80=>true
 | .k83=>true
 | .k107=>true
 | .k124=>true
 | .k134=>true
 | .k136=>true
 | .k145=>true
 | .k1034=>true
 | .k1036=>true
 | .k1060=>true
 | .k1062=>true
 | .k1080=>true
 | .k1107=>true
 | .k1124=>true
 | .k2026=>false
 | .k2055=>false
def tG:TS:=⟨λc=>TyT (kk c),λc=>inK (kk c),λc=>c%1000,λc=>lfK (kk c),λc=>unK (kk c),λc=>c+1000,λc=>tuK (kk c),λc=>plK (kk c),λc=>elK (kk c)⟩
def prK:∀k,TyT k->Tup tG (lfK k)
 | .k3,x=>(x:Int)
 | .k4,x=>(x:Bool)
 | .k5,x=>(x:Int)
 | .k26,x=>((x:DHost).Words,(x:DHost).Guests)
 | .k34,x=>((x:DCore).Regs,(x:DCore).Pc,(x:DCore).Root,(x:DCore).Vector,(x:DCore).Saved,(x:DCore).SavedUser,(x:DCore).Cause,(x:DCore).Bad,(x:DCore).Timer,(x:DCore).Waits,(x:DCore).User,(x:DCore).On,(x:DCore).Stopped)
 | .k36,x=>((x:DBare).C.Regs,(x:DBare).C.Pc,(x:DBare).C.Root,(x:DBare).C.Vector,(x:DBare).C.Saved,(x:DBare).C.SavedUser,(x:DBare).C.Cause,(x:DBare).C.Bad,(x:DBare).C.Timer,(x:DBare).C.Waits,(x:DBare).C.User,(x:DBare).C.On,(x:DBare).C.Stopped,(x:DBare).Mem,(x:DBare).In,(x:DBare).Out)
 | .k55,x=>((x:DHost).Words,(x:DHost).Guests)
 | .k60,x=>((x:DCore).Regs,(x:DCore).Pc,(x:DCore).Root,(x:DCore).Vector,(x:DCore).Saved,(x:DCore).SavedUser,(x:DCore).Cause,(x:DCore).Bad,(x:DCore).Timer,(x:DCore).Waits,(x:DCore).User,(x:DCore).On,(x:DCore).Stopped)
 | .k62,x=>((x:DBare).C.Regs,(x:DBare).C.Pc,(x:DBare).C.Root,(x:DBare).C.Vector,(x:DBare).C.Saved,(x:DBare).C.SavedUser,(x:DBare).C.Cause,(x:DBare).C.Bad,(x:DBare).C.Timer,(x:DBare).C.Waits,(x:DBare).C.User,(x:DBare).C.On,(x:DBare).C.Stopped,(x:DBare).Mem,(x:DBare).In,(x:DBare).Out)
 | .k80,x=>((x:DGuest).Live,(x:DGuest).C.Regs,(x:DGuest).C.Pc,(x:DGuest).C.Root,(x:DGuest).C.Vector,(x:DGuest).C.Saved,(x:DGuest).C.SavedUser,(x:DGuest).C.Cause,(x:DGuest).C.Bad,(x:DGuest).C.Timer,(x:DGuest).C.Waits,(x:DGuest).C.User,(x:DGuest).C.On,(x:DGuest).C.Stopped,(x:DGuest).Pages,(x:DGuest).In,(x:DGuest).Out)
 | .k83,x=>((x:DSlot).Frame,(x:DSlot).Write,(x:DSlot).Dirty)
 | .k107,x=>((x:Dl20Rd).b,(x:Dl20Rd).p)
 | .k124,x=>((x:DGuest).Live,(x:DGuest).C.Regs,(x:DGuest).C.Pc,(x:DGuest).C.Root,(x:DGuest).C.Vector,(x:DGuest).C.Saved,(x:DGuest).C.SavedUser,(x:DGuest).C.Cause,(x:DGuest).C.Bad,(x:DGuest).C.Timer,(x:DGuest).C.Waits,(x:DGuest).C.User,(x:DGuest).C.On,(x:DGuest).C.Stopped,(x:DGuest).Pages,(x:DGuest).In,(x:DGuest).Out)
 | .k134,x=>((x:DEntry).There,(x:DEntry).Write,(x:DEntry).User,(x:DEntry).Page)
 | .k136,x=>((x:DIns).Op,(x:DIns).A,(x:DIns).N)
 | .k145,x=>((x:DSlot).Frame,(x:DSlot).Write,(x:DSlot).Dirty)
 | .k1034,x=>((x:DCore).Regs,(x:DCore).Pc,(x:DCore).Root,(x:DCore).Vector,(x:DCore).Saved,(x:DCore).SavedUser,(x:DCore).Cause,(x:DCore).Bad,(x:DCore).Timer,(x:DCore).Waits,(x:DCore).User,(x:DCore).On,(x:DCore).Stopped)
 | .k1036,x=>((x:DBare).C.Regs,(x:DBare).C.Pc,(x:DBare).C.Root,(x:DBare).C.Vector,(x:DBare).C.Saved,(x:DBare).C.SavedUser,(x:DBare).C.Cause,(x:DBare).C.Bad,(x:DBare).C.Timer,(x:DBare).C.Waits,(x:DBare).C.User,(x:DBare).C.On,(x:DBare).C.Stopped,(x:DBare).Mem,(x:DBare).In,(x:DBare).Out)
 | .k1060,x=>((x:DCore).Regs,(x:DCore).Pc,(x:DCore).Root,(x:DCore).Vector,(x:DCore).Saved,(x:DCore).SavedUser,(x:DCore).Cause,(x:DCore).Bad,(x:DCore).Timer,(x:DCore).Waits,(x:DCore).User,(x:DCore).On,(x:DCore).Stopped)
 | .k1062,x=>((x:DBare).C.Regs,(x:DBare).C.Pc,(x:DBare).C.Root,(x:DBare).C.Vector,(x:DBare).C.Saved,(x:DBare).C.SavedUser,(x:DBare).C.Cause,(x:DBare).C.Bad,(x:DBare).C.Timer,(x:DBare).C.Waits,(x:DBare).C.User,(x:DBare).C.On,(x:DBare).C.Stopped,(x:DBare).Mem,(x:DBare).In,(x:DBare).Out)
 | .k1080,x=>((x:DGuest).Live,(x:DGuest).C.Regs,(x:DGuest).C.Pc,(x:DGuest).C.Root,(x:DGuest).C.Vector,(x:DGuest).C.Saved,(x:DGuest).C.SavedUser,(x:DGuest).C.Cause,(x:DGuest).C.Bad,(x:DGuest).C.Timer,(x:DGuest).C.Waits,(x:DGuest).C.User,(x:DGuest).C.On,(x:DGuest).C.Stopped,(x:DGuest).Pages,(x:DGuest).In,(x:DGuest).Out)
 | .k1107,x=>((x:Dl20Rd).b,(x:Dl20Rd).p)
 | .k1124,x=>((x:DGuest).Live,(x:DGuest).C.Regs,(x:DGuest).C.Pc,(x:DGuest).C.Root,(x:DGuest).C.Vector,(x:DGuest).C.Saved,(x:DGuest).C.SavedUser,(x:DGuest).C.Cause,(x:DGuest).C.Bad,(x:DGuest).C.Timer,(x:DGuest).C.Waits,(x:DGuest).C.User,(x:DGuest).C.On,(x:DGuest).C.Stopped,(x:DGuest).Pages,(x:DGuest).In,(x:DGuest).Out)
 | .k2026,x=>((x:DHost).Words,(x:DHost).Guests)
 | .k2055,x=>((x:DHost).Words,(x:DHost).Guests)
def mkK:∀k,Tup tG (lfK k)->TyT k
 | .k3,a0=>a0
 | .k4,a0=>a0
 | .k5,a0=>a0
 | .k26,(a0,a1)=>(DHost.mk a0 a1)
 | .k34,(a0,a1,a2,a3,a4,a5,a6,a7,a8,a9,a10,a11,a12)=>(DCore.mk a0 a1 a2 a3 a4 a5 a6 a7 a8 a9 a10 a11 a12)
 | .k36,(a0,a1,a2,a3,a4,a5,a6,a7,a8,a9,a10,a11,a12,a13,a14,a15)=>(DBare.mk (DCore.mk a0 a1 a2 a3 a4 a5 a6 a7 a8 a9 a10 a11 a12) a13 a14 a15)
 | .k55,(a0,a1)=>(DHost.mk a0 a1)
 | .k60,(a0,a1,a2,a3,a4,a5,a6,a7,a8,a9,a10,a11,a12)=>(DCore.mk a0 a1 a2 a3 a4 a5 a6 a7 a8 a9 a10 a11 a12)
 | .k62,(a0,a1,a2,a3,a4,a5,a6,a7,a8,a9,a10,a11,a12,a13,a14,a15)=>(DBare.mk (DCore.mk a0 a1 a2 a3 a4 a5 a6 a7 a8 a9 a10 a11 a12) a13 a14 a15)
 | .k80,(a0,a1,a2,a3,a4,a5,a6,a7,a8,a9,a10,a11,a12,a13,a14,a15,a16)=>(DGuest.mk a0 (DCore.mk a1 a2 a3 a4 a5 a6 a7 a8 a9 a10 a11 a12 a13) a14 a15 a16)
 | .k83,(a0,a1,a2)=>(DSlot.mk a0 a1 a2)
 | .k107,(a0,a1)=>(Dl20Rd.mk a0 a1)
 | .k124,(a0,a1,a2,a3,a4,a5,a6,a7,a8,a9,a10,a11,a12,a13,a14,a15,a16)=>(DGuest.mk a0 (DCore.mk a1 a2 a3 a4 a5 a6 a7 a8 a9 a10 a11 a12 a13) a14 a15 a16)
 | .k134,(a0,a1,a2,a3)=>(DEntry.mk a0 a1 a2 a3)
 | .k136,(a0,a1,a2)=>(DIns.mk a0 a1 a2)
 | .k145,(a0,a1,a2)=>(DSlot.mk a0 a1 a2)
 | .k1034,(a0,a1,a2,a3,a4,a5,a6,a7,a8,a9,a10,a11,a12)=>(DCore.mk a0 a1 a2 a3 a4 a5 a6 a7 a8 a9 a10 a11 a12)
 | .k1036,(a0,a1,a2,a3,a4,a5,a6,a7,a8,a9,a10,a11,a12,a13,a14,a15)=>(DBare.mk (DCore.mk a0 a1 a2 a3 a4 a5 a6 a7 a8 a9 a10 a11 a12) a13 a14 a15)
 | .k1060,(a0,a1,a2,a3,a4,a5,a6,a7,a8,a9,a10,a11,a12)=>(DCore.mk a0 a1 a2 a3 a4 a5 a6 a7 a8 a9 a10 a11 a12)
 | .k1062,(a0,a1,a2,a3,a4,a5,a6,a7,a8,a9,a10,a11,a12,a13,a14,a15)=>(DBare.mk (DCore.mk a0 a1 a2 a3 a4 a5 a6 a7 a8 a9 a10 a11 a12) a13 a14 a15)
 | .k1080,(a0,a1,a2,a3,a4,a5,a6,a7,a8,a9,a10,a11,a12,a13,a14,a15,a16)=>(DGuest.mk a0 (DCore.mk a1 a2 a3 a4 a5 a6 a7 a8 a9 a10 a11 a12 a13) a14 a15 a16)
 | .k1107,(a0,a1)=>(Dl20Rd.mk a0 a1)
 | .k1124,(a0,a1,a2,a3,a4,a5,a6,a7,a8,a9,a10,a11,a12,a13,a14,a15,a16)=>(DGuest.mk a0 (DCore.mk a1 a2 a3 a4 a5 a6 a7 a8 a9 a10 a11 a12 a13) a14 a15 a16)
 | .k2026,(a0,a1)=>(DHost.mk a0 a1)
 | .k2055,(a0,a1)=>(DHost.mk a0 a1)
def bEc(x:DHost):List AV:=[.bor (List.length x.Words) (fl (eI .i64) x.Words),.bor (List.length x.Guests) (fl kI x.Guests)]
theorem bGd:∀x,aH (bEc x)=true:=λx=>by simp only[bEc,aH,AV.noRef,Bool.and_self,aB bE,aB nY]
def bCj(x:DHost):List AV:=[.bor (List.length x.Words) (fl (eI .i64) x.Words),.bor (List.length x.Guests) (fl xP x.Guests)]
theorem bHe:∀x,aH (bCj x)=true:=λx=>by simp only[bCj,aH,AV.noRef,Bool.and_self,aB bE,aB wE]
def avK:∀k,TyT k->List AV
 | .k3=>eI .i64
 | .k4=>eB
 | .k5=>eI .u8
 | .k26=>rB
 | .k34=>aEh
 | .k36=>nI
 | .k55=>aIc
 | .k60=>aCg
 | .k62=>aCq
 | .k80=>lN
 | .k83=>eN
 | .k107=>xX
 | .k124=>vD
 | .k134=>aEq
 | .k136=>aFh
 | .k145=>vO
 | .k1034=>aGn
 | .k1036=>aId
 | .k1060=>aGl
 | .k1062=>aHe
 | .k1080=>kI
 | .k1107=>aBo
 | .k1124=>xP
 | .k2026=>bEc
 | .k2055=>bCj
theorem clK:∀k x,plK k=true->aS (avK k x)=true
 | .k3,x,_=>cE x
 | .k4,x,_=>bEz x
 | .k5,x,_=>cE x
 | .k26,x,_=>aLj x
 | .k34,x,_=>aUa x
 | .k36,x,_=>aEp x
 | .k55,x,_=>aUx x
 | .k60,x,_=>aTn x
 | .k62,x,_=>aVi x
 | .k80,x,_=>aLv x
 | .k83,x,_=>yK x
 | .k107,x,_=>aQn x
 | .k124,x,_=>aIg x
 | .k134,x,_=>aOj x
 | .k136,x,_=>aQy x
 | .k145,x,_=>aBc x
 | .k1034,_,h=>by cases h
 | .k1036,_,h=>by cases h
 | .k1060,_,h=>by cases h
 | .k1062,_,h=>by cases h
 | .k1080,_,h=>by cases h
 | .k1107,_,h=>by cases h
 | .k1124,_,h=>by cases h
 | .k2026,_,h=>by cases h
 | .k2055,_,h=>by cases h
theorem nrK:∀k x,aH (avK k x)=true
 | .k3,x=>bE x
 | .k4,x=>aXo x
 | .k5,x=>bE x
 | .k26,x=>aEz x
 | .k34,x=>aFj x
 | .k36,x=>aEt x
 | .k55,x=>aEs x
 | .k60,x=>aEo x
 | .k62,x=>aEv x
 | .k80,x=>zF x
 | .k83,x=>hM x
 | .k107,x=>zR x
 | .k124,x=>wJ x
 | .k134,x=>aBj x
 | .k136,x=>aAt x
 | .k145,x=>sB x
 | .k1034,x=>aFd x
 | .k1036,x=>aFi x
 | .k1060,x=>aEy x
 | .k1062,x=>aEm x
 | .k1080,x=>nY x
 | .k1107,x=>zW x
 | .k1124,x=>wE x
 | .k2026,x=>bGd x
 | .k2055,x=>bHe x
theorem bKw:∀k,plK k=true->(lfK k).all (plL tG)=true
 | .k3,_=>rfl
 | .k4,_=>rfl
 | .k5,_=>rfl
 | .k26,_=>rfl
 | .k34,_=>rfl
 | .k36,_=>rfl
 | .k55,_=>rfl
 | .k60,_=>rfl
 | .k62,_=>rfl
 | .k80,_=>rfl
 | .k83,_=>rfl
 | .k107,_=>rfl
 | .k124,_=>rfl
 | .k134,_=>rfl
 | .k136,_=>rfl
 | .k145,_=>rfl
 | .k1034,h=>by cases h
 | .k1036,h=>by cases h
 | .k1060,h=>by cases h
 | .k1062,h=>by cases h
 | .k1080,h=>by cases h
 | .k1107,h=>by cases h
 | .k1124,h=>by cases h
 | .k2026,h=>by cases h
 | .k2055,h=>by cases h
theorem bLk:∀k,elK k=true->(lfK k).all (elL tG)=true
 | .k3,_=>rfl
 | .k4,_=>rfl
 | .k5,_=>rfl
 | .k26,_=>rfl
 | .k34,_=>rfl
 | .k36,_=>rfl
 | .k55,_=>rfl
 | .k60,_=>rfl
 | .k62,_=>rfl
 | .k80,_=>rfl
 | .k83,_=>rfl
 | .k107,_=>rfl
 | .k124,_=>rfl
 | .k134,_=>rfl
 | .k136,_=>rfl
 | .k145,_=>rfl
 | .k1034,_=>rfl
 | .k1036,_=>rfl
 | .k1060,_=>rfl
 | .k1062,_=>rfl
 | .k1080,_=>rfl
 | .k1107,_=>rfl
 | .k1124,_=>rfl
 | .k2026,h=>by cases h
 | .k2055,h=>by cases h
theorem bLm:∀k,elK k=true->plK (kk (unK k))=true
 | .k3,_=>rfl
 | .k4,_=>rfl
 | .k5,_=>rfl
 | .k26,_=>rfl
 | .k34,_=>rfl
 | .k36,_=>rfl
 | .k55,_=>rfl
 | .k60,_=>rfl
 | .k62,_=>rfl
 | .k80,_=>rfl
 | .k83,_=>rfl
 | .k107,_=>rfl
 | .k124,_=>rfl
 | .k134,_=>rfl
 | .k136,_=>rfl
 | .k145,_=>rfl
 | .k1034,_=>rfl
 | .k1036,_=>rfl
 | .k1060,_=>rfl
 | .k1062,_=>rfl
 | .k1080,_=>rfl
 | .k1107,_=>rfl
 | .k1124,_=>rfl
 | .k2026,h=>by cases h
 | .k2055,h=>by cases h
theorem thK:∀k x,elK k=true->(avK k x).map AV.thaw=avK (kk (unK k)) (cast (tuK k) x)
 | .k3,x,_=>by kernel_rfl
 | .k4,x,_=>by kernel_rfl
 | .k5,x,_=>by kernel_rfl
 | .k26,x,_=>by kernel_rfl
 | .k34,x,_=>by kernel_rfl
 | .k36,x,_=>by kernel_rfl
 | .k55,x,_=>by kernel_rfl
 | .k60,x,_=>by kernel_rfl
 | .k62,x,_=>by kernel_rfl
 | .k80,x,_=>by kernel_rfl
 | .k83,x,_=>by kernel_rfl
 | .k107,x,_=>by kernel_rfl
 | .k124,x,_=>by kernel_rfl
 | .k134,x,_=>by kernel_rfl
 | .k136,x,_=>by kernel_rfl
 | .k145,x,_=>by kernel_rfl
 | .k1034,x,_=>by kernel_rfl
 | .k1036,x,_=>by kernel_rfl
 | .k1060,x,_=>by kernel_rfl
 | .k1062,x,_=>by kernel_rfl
 | .k1080,x,_=>by kernel_rfl
 | .k1107,x,_=>by kernel_rfl
 | .k1124,x,_=>by kernel_rfl
 | .k2026,_,h=>by cases h
 | .k2055,_,h=>by cases h
theorem shK:∀k x,elK k=true->Shal (avK k x)
 | .k3,x,_=>jY (cG x)
 | .k4,x,_=>jY (bEx x)
 | .k5,x,_=>jY (cG x)
 | .k26,x,_=>jY (aTe x)
 | .k34,x,_=>jY (aVr x)
 | .k36,x,_=>jY (aUu x)
 | .k55,x,_=>jY (aUv x)
 | .k60,x,_=>jY (aTq x)
 | .k62,x,_=>jY (aTv x)
 | .k80,x,_=>jY (aUo x)
 | .k83,x,_=>jY (yZ x)
 | .k107,x,_=>jY (aPd x)
 | .k124,x,_=>jY (aRi x)
 | .k134,x,_=>jY (aRx x)
 | .k136,x,_=>jY (aPh x)
 | .k145,x,_=>jY (aAf x)
 | .k1034,x,_=>bHa x
 | .k1036,x,_=>bGs x
 | .k1060,x,_=>bFr x
 | .k1062,x,_=>bHm x
 | .k1080,x,_=>bHi x
 | .k1107,x,_=>bEj x
 | .k1124,x,_=>bEb x
 | .k2026,_,h=>by cases h
 | .k2055,_,h=>by cases h
theorem ckK{a b:Prop}(h:a)(e:a=b:=by kernel_rfl):b:=e▸h
theorem bKn:∀k,elK k=true->kE (avK k) (λx=>avK (kk (unK k)) (cast (tuK k) x))
 | .k3,_=>ckK (iH (c:=eI .i64) cG cE)
 | .k4,_=>ckK (iH (c:=eB) bEx bEz)
 | .k5,_=>ckK (iH (c:=eI .u8) cG cE)
 | .k26,_=>ckK (iH (c:=rB) aTe aLj)
 | .k34,_=>ckK (iH (c:=aEh) aVr aUa)
 | .k36,_=>ckK (iH (c:=nI) aUu aEp)
 | .k55,_=>ckK (iH (c:=aIc) aUv aUx)
 | .k60,_=>ckK (iH (c:=aCg) aTq aTn)
 | .k62,_=>ckK (iH (c:=aCq) aTv aVi)
 | .k80,_=>ckK (iH (c:=lN) aUo aLv)
 | .k83,_=>ckK (iH (c:=eN) yZ yK)
 | .k107,_=>ckK (iH (c:=xX) aPd aQn)
 | .k124,_=>ckK (iH (c:=vD) aRi aIg)
 | .k134,_=>ckK (iH (c:=aEq) aRx aOj)
 | .k136,_=>ckK (iH (c:=aFh) aPh aQy)
 | .k145,_=>ckK (iH (c:=vO) aAf aBc)
 | .k1034,_=>ckK bFu
 | .k1036,_=>ckK bHd
 | .k1060,_=>ckK bHn
 | .k1062,_=>ckK bFl
 | .k1080,_=>ckK aVh
 | .k1107,_=>ckK bEm
 | .k1124,_=>ckK bDd
 | .k2026,h=>by cases h
 | .k2055,h=>by cases h
def tG1:TS1:=⟨tG,λc=>prK (kk c),λc=>mkK (kk c),λc=>avK (kk c)⟩
theorem bLc:∀k x,avK k x=trs tG1 (bU tG (lfK k) (prK k x))
 | .k3,x=>by kernel_rfl
 | .k4,x=>by kernel_rfl
 | .k5,x=>by kernel_rfl
 | .k26,x=>by kernel_rfl
 | .k34,x=>by kernel_rfl
 | .k36,x=>by kernel_rfl
 | .k55,x=>by kernel_rfl
 | .k60,x=>by kernel_rfl
 | .k62,x=>by kernel_rfl
 | .k80,x=>by kernel_rfl
 | .k83,x=>by kernel_rfl
 | .k107,x=>by kernel_rfl
 | .k124,x=>by kernel_rfl
 | .k134,x=>by kernel_rfl
 | .k136,x=>by kernel_rfl
 | .k145,x=>by kernel_rfl
 | .k1034,x=>by kernel_rfl
 | .k1036,x=>by kernel_rfl
 | .k1060,x=>by kernel_rfl
 | .k1062,x=>by kernel_rfl
 | .k1080,x=>by kernel_rfl
 | .k1107,x=>by kernel_rfl
 | .k1124,x=>by kernel_rfl
 | .k2026,x=>by kernel_rfl
 | .k2055,x=>by kernel_rfl
theorem bLd:∀k t,prK k (mkK k t)=t
 | .k3,t=>by kernel_rfl
 | .k4,t=>by kernel_rfl
 | .k5,t=>by kernel_rfl
 | .k26,t=>by kernel_rfl
 | .k34,t=>by kernel_rfl
 | .k36,t=>by kernel_rfl
 | .k55,t=>by kernel_rfl
 | .k60,t=>by kernel_rfl
 | .k62,t=>by kernel_rfl
 | .k80,t=>by kernel_rfl
 | .k83,t=>by kernel_rfl
 | .k107,t=>by kernel_rfl
 | .k124,t=>by kernel_rfl
 | .k134,t=>by kernel_rfl
 | .k136,t=>by kernel_rfl
 | .k145,t=>by kernel_rfl
 | .k1034,t=>by kernel_rfl
 | .k1036,t=>by kernel_rfl
 | .k1060,t=>by kernel_rfl
 | .k1062,t=>by kernel_rfl
 | .k1080,t=>by kernel_rfl
 | .k1107,t=>by kernel_rfl
 | .k1124,t=>by kernel_rfl
 | .k2026,t=>by kernel_rfl
 | .k2055,t=>by kernel_rfl
theorem bKs:∀k,0<(lfK k).length
 | .k3=>by decide
 | .k4=>by decide
 | .k5=>by decide
 | .k26=>by decide
 | .k34=>by decide
 | .k36=>by decide
 | .k55=>by decide
 | .k60=>by decide
 | .k62=>by decide
 | .k80=>by decide
 | .k83=>by decide
 | .k107=>by decide
 | .k124=>by decide
 | .k134=>by decide
 | .k136=>by decide
 | .k145=>by decide
 | .k1034=>by decide
 | .k1036=>by decide
 | .k1060=>by decide
 | .k1062=>by decide
 | .k1080=>by decide
 | .k1107=>by decide
 | .k1124=>by decide
 | .k2026=>by decide
 | .k2055=>by decide
def tS:TS2:=⟨tG1,λc x=>bLc (kk c) x,λc t=>bLd (kk c) t,λc=>bKs (kk c),λc x=>clK (kk c) x,λc x=>nrK (kk c) x,λc=>bKw (kk c),λc=>bLk (kk c),λc x=>thK (kk c) x,λc x=>shK (kk c) x,λc=>bKn (kk c),λc=>bLm (kk c)⟩
abbrev Sok(f:Nat)(g:Sg tG):Prop:=SgP tG1 Try.prog f (avR tG1 g.r) g.ps [] g.F
abbrev Sjk(f:Nat)(g:Sw tG):Prop:=SjP tG1 Try.prog f g.r g.qs g.qs [] TH.emp 0 g.F
abbrev Sop(f:Nat)(g:So tG):Prop:=SoP tG1 Try.prog f g.c g.ps [] g.F
def cxL(l:List (Nat×Sx tG)):Ctx tG:=λk=>match l with
 |[]=>none
 |(f,s)::l=>match Nat.beq f k with|true=>some s|false=>cxL l k
def CxP:List (Nat×Sx tG)->Prop
 |[]=>True
 |(f,s)::l=>bIx tG1 Try.prog f s/\CxP l
theorem aOk:∀{l:List (Nat×Sx tG)},CxP l->oJ tG1 Try.prog (cxL l)
 |[],_=>λf s h=>by simp only[cxL]at h;cases h
 |(f0,s0)::l,hl=>λf s h=>by simp only[cxL]at h;split at h;{rename_i e;have:=Nat.eq_of_beq_eq_true e;subst this;cases h;exact hl.1};{exact aOk hl.2 f s h}
theorem sgx{f:Nat}{g:Sg tG}(l:List (Nat×Sx tG))(hl:CxP l)(A:An)(h:aXz tG1 (cxL l) (uG Try.prog f) A g.r g.ps [] 0=g.F)(h1:(iN Try.prog f).isSome=true)(h2:(Nat.ble g.ps.length (uG Try.prog f).ntmps&&wfR tG g.r&&g.ps.all (wfA tG))=true):Sok f g:=sg (τ:=tS) (aOk hl) f A g.r g.ps g.F h h1 h2
theorem sgy{f:Nat}{g:Sw tG}(l:List (Nat×Sx tG))(hl:CxP l)(A:An)(h:aXf tG1 (cxL l) (uG Try.prog f) A g.r g.qs g.qs [] TH.emp 0 0=g.F)(h1:(iN Try.prog f).isSome=true)(h2:(Nat.ble g.qs.length (uG Try.prog f).ntmps&&wfR tG g.r&&g.qs.all (wfQ tG))=true):Sjk f g:=sgw (τ:=tS) (aOk hl) f A g.r g.qs g.F h h1 h2
theorem kc{a b:Prop}(h:a)(e:a=b:=by kernel_rfl):b:=e▸h
end Go.Proofs.Ytobbmlnagjhofaa
