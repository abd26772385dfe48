/- The types of the typed machine. Made by program. -/
import Derived.Test.YtcgggihjcelmhaaWT5
import Derived.Test.YtcgggihjcelmhaaDE
import Derived.Test.YtcgggihjcelmhaaProg
namespace Go.Proofs.Ytcgggihjcelmhaa
open Go.RowKit
set_option maxRecDepth 100000
set_option linter.all false
set_option maxHeartbeats 0
inductive TyK where
 |k3
 |k4
 |k5
 |k26
 |k29
 |k42
 |k44
 |k61
 |k64
 |k66
 |k81
 |k106
 |k109
 |k130
 |k133
 |k158
 |k164
 |k167
 |k172
 |k175
 |k1061
 |k1064
 |k1081
 |k1109
 |k1130
 |k1133
 |k2026
 |k2029
 |k2042
 |k2044
def kk:Nat->TyK
 |3=> .k3
 |4=> .k4
 |5=> .k5
 |26=> .k26
 |29=> .k29
 |42=> .k42
 |44=> .k44
 |61=> .k61
 |64=> .k64
 |66=> .k66
 |81=> .k81
 |106=> .k106
 |109=> .k109
 |130=> .k130
 |133=> .k133
 |158=> .k158
 |164=> .k164
 |167=> .k167
 |172=> .k172
 |175=> .k175
 |1061=> .k1061
 |1064=> .k1064
 |1081=> .k1081
 |1109=> .k1109
 |1130=> .k1130
 |1133=> .k1133
 |2026=> .k2026
 |2029=> .k2029
 |2042=> .k2042
 |2044=> .k2044
 |_=> .k3
def TyT:TyK->Type
 | .k3=>Int
 | .k4=>Bool
 | .k5=>Int
 | .k26=>DHost
 | .k29=>DMove
 | .k42=>DHost
 | .k44=>DMove
 | .k61=>DCore
 | .k64=>DGuest
 | .k66=>DSlot
 | .k81=>DBare
 | .k106=>DAct
 | .k109=>Dl20Rd
 | .k130=>DCore
 | .k133=>DGuest
 | .k158=>DIns
 | .k164=>DShade
 | .k167=>DEntry
 | .k172=>DSlot
 | .k175=>DExit
 | .k1061=>DCore
 | .k1064=>DGuest
 | .k1081=>DBare
 | .k1109=>Dl20Rd
 | .k1130=>DCore
 | .k1133=>DGuest
 | .k2026=>DHost
 | .k2029=>DMove
 | .k2042=>DHost
 | .k2044=>DMove
@[reducible] def inK : ∀ k, Inhabited (TyT k)
 | .k3=>⟨(default:Int)⟩
 | .k4=>⟨(default:Bool)⟩
 | .k5=>⟨(default:Int)⟩
 | .k26=>⟨(default:DHost)⟩
 | .k29=>⟨(default:DMove)⟩
 | .k42=>⟨(default:DHost)⟩
 | .k44=>⟨(default:DMove)⟩
 | .k61=>⟨(default:DCore)⟩
 | .k64=>⟨(default:DGuest)⟩
 | .k66=>⟨(default:DSlot)⟩
 | .k81=>⟨(default:DBare)⟩
 | .k106=>⟨(default:DAct)⟩
 | .k109=>⟨(default:Dl20Rd)⟩
 | .k130=>⟨(default:DCore)⟩
 | .k133=>⟨(default:DGuest)⟩
 | .k158=>⟨(default:DIns)⟩
 | .k164=>⟨(default:DShade)⟩
 | .k167=>⟨(default:DEntry)⟩
 | .k172=>⟨(default:DSlot)⟩
 | .k175=>⟨(default:DExit)⟩
 | .k1061=>⟨(default:DCore)⟩
 | .k1064=>⟨(default:DGuest)⟩
 | .k1081=>⟨(default:DBare)⟩
 | .k1109=>⟨(default:Dl20Rd)⟩
 | .k1130=>⟨(default:DCore)⟩
 | .k1133=>⟨(default:DGuest)⟩
 | .k2026=>⟨(default:DHost)⟩
 | .k2029=>⟨(default:DMove)⟩
 | .k2042=>⟨(default:DHost)⟩
 | .k2044=>⟨(default:DMove)⟩
def lfK:TyK->List Lf
 | .k3=>[.i .i64]
 | .k4=>[.b]
 | .k5=>[.i .u8]
 | .k26=>[.row 3,.row 64]
 | .k29=>[.row 3,.row 64,.row 3,.row 64,.i .i64,.i .i64,.row 4]
 | .k42=>[.row 3,.row 133]
 | .k44=>[.row 3,.row 133,.row 3,.row 133,.i .i64,.i .i64,.row 4]
 | .k61=>[.row 3,.i .i64,.i .i64,.i .i64,.i .i64,.b,.i .i64,.i .i64,.i .i64,.b,.b,.b,.b]
 | .k64=>[.b,.row 3,.i .i64,.i .i64,.i .i64,.i .i64,.b,.i .i64,.i .i64,.i .i64,.b,.b,.b,.b,.row 66,.row 3,.row 3]
 | .k66=>[.i .i64,.b,.b]
 | .k81=>[.row 3,.i .i64,.i .i64,.i .i64,.i .i64,.b,.i .i64,.i .i64,.i .i64,.b,.b,.b,.b,.row 3,.row 3,.row 3]
 | .k106=>[.i .i64,.i .i64]
 | .k109=>[.row 5,.i .i64]
 | .k130=>[.row 3,.i .i64,.i .i64,.i .i64,.i .i64,.b,.i .i64,.i .i64,.i .i64,.b,.b,.b,.b]
 | .k133=>[.b,.row 3,.i .i64,.i .i64,.i .i64,.i .i64,.b,.i .i64,.i .i64,.i .i64,.b,.b,.b,.b,.row 172,.row 3,.row 3]
 | .k158=>[.i .i64,.i .i64,.i .i64]
 | .k164=>[.b,.b,.b,.i .i64,.i .i64,.b]
 | .k167=>[.b,.b,.b,.i .i64]
 | .k172=>[.i .i64,.b,.b]
 | .k175=>[.i .i64,.i .i64,.i .i64,.i .i64,.i .i64]
 | .k1061=>[.own 3,.i .i64,.i .i64,.i .i64,.i .i64,.b,.i .i64,.i .i64,.i .i64,.b,.b,.b,.b]
 | .k1064=>[.b,.own 3,.i .i64,.i .i64,.i .i64,.i .i64,.b,.i .i64,.i .i64,.i .i64,.b,.b,.b,.b,.own 66,.own 3,.own 3]
 | .k1081=>[.own 3,.i .i64,.i .i64,.i .i64,.i .i64,.b,.i .i64,.i .i64,.i .i64,.b,.b,.b,.b,.own 3,.own 3,.own 3]
 | .k1109=>[.own 5,.i .i64]
 | .k1130=>[.own 3,.i .i64,.i .i64,.i .i64,.i .i64,.b,.i .i64,.i .i64,.i .i64,.b,.b,.b,.b]
 | .k1133=>[.b,.own 3,.i .i64,.i .i64,.i .i64,.i .i64,.b,.i .i64,.i .i64,.i .i64,.b,.b,.b,.b,.own 172,.own 3,.own 3]
 | .k2026=>[.row 3,.row 1064]
 | .k2029=>[.row 3,.row 1064,.row 3,.row 1064,.i .i64,.i .i64,.row 4]
 | .k2042=>[.row 3,.row 1133]
 | .k2044=>[.row 3,.row 1133,.row 3,.row 1133,.i .i64,.i .i64,.row 4]
def unK:TyK->Nat
 | .k3=>3
 | .k4=>4
 | .k5=>5
 | .k26=>26
 | .k29=>29
 | .k42=>42
 | .k44=>44
 | .k61=>61
 | .k64=>64
 | .k66=>66
 | .k81=>81
 | .k106=>106
 | .k109=>109
 | .k130=>130
 | .k133=>133
 | .k158=>158
 | .k164=>164
 | .k167=>167
 | .k172=>172
 | .k175=>175
 | .k1061=>61
 | .k1064=>64
 | .k1081=>81
 | .k1109=>109
 | .k1130=>130
 | .k1133=>133
 | .k2026=>26
 | .k2029=>29
 | .k2042=>42
 | .k2044=>44
theorem tuK:∀k,TyT k=TyT (kk (unK k))
 | .k3=>rfl
 | .k4=>rfl
 | .k5=>rfl
 | .k26=>rfl
 | .k29=>rfl
 | .k42=>rfl
 | .k44=>rfl
 | .k61=>rfl
 | .k64=>rfl
 | .k66=>rfl
 | .k81=>rfl
 | .k106=>rfl
 | .k109=>rfl
 | .k130=>rfl
 | .k133=>rfl
 | .k158=>rfl
 | .k164=>rfl
 | .k167=>rfl
 | .k172=>rfl
 | .k175=>rfl
 | .k1061=>rfl
 | .k1064=>rfl
 | .k1081=>rfl
 | .k1109=>rfl
 | .k1130=>rfl
 | .k1133=>rfl
 | .k2026=>rfl
 | .k2029=>rfl
 | .k2042=>rfl
 | .k2044=>rfl
def plK:TyK->Bool
 | .k3=>true
 | .k4=>true
 | .k5=>true
 | .k26=>true
 | .k29=>true
 | .k42=>true
 | .k44=>true
 | .k61=>true
 | .k64=>true
 | .k66=>true
 | .k81=>true
 | .k106=>true
 | .k109=>true
 | .k130=>true
 | .k133=>true
 | .k158=>true
 | .k164=>true
 | .k167=>true
 | .k172=>true
 | .k175=>true
 | .k1061=>false
 | .k1064=>false
 | .k1081=>false
 | .k1109=>false
 | .k1130=>false
 | .k1133=>false
 | .k2026=>false
 | .k2029=>false
 | .k2042=>false
 | .k2044=>false
def elK:TyK->Bool
 | .k3=>true
 | .k4=>true
 | .k5=>true
 | .k26=>true
 | .k29=>true
 | .k42=>true
 | .k44=>true
 | .k61=>true
 | .k64=>true
 | .k66=>true
 | .k81=>true
 | .k106=>true
 | .k109=>true
 | .k130=>true
 | .k133=>true
 | .k158=>true
 | .k164=>true
 | .k167=>true
 | .k172=>true
 | .k175=>true
 | .k1061=>true
 | .k1064=>true
 | .k1081=>true
 | .k1109=>true
 | .k1130=>true
 | .k1133=>true
 | .k2026=>false
 | .k2029=>false
 | .k2042=>false
 | .k2044=>false
def tG:TS:=⟨λc=>TyT (kk c),λc=>inK (kk c),λc=>c%1000,λc=>lfK (kk c),λc=>unK (kk c),λc=>c+1000,λc=>tuK (kk c),λc=>plK (kk c),λc=>elK (kk c)⟩
def prK:∀k,TyT k->Tup tG (lfK k)
 | .k3,x=>(x:Int)
 | .k4,x=>(x:Bool)
 | .k5,x=>(x:Int)
 | .k26,x=>((x:DHost).Words,(x:DHost).Guests)
 | .k29,x=>((x:DMove).From.Words,(x:DMove).From.Guests,(x:DMove).To.Words,(x:DMove).To.Guests,(x:DMove).G,(x:DMove).N,(x:DMove).Left)
 | .k42,x=>((x:DHost).Words,(x:DHost).Guests)
 | .k44,x=>((x:DMove).From.Words,(x:DMove).From.Guests,(x:DMove).To.Words,(x:DMove).To.Guests,(x:DMove).G,(x:DMove).N,(x:DMove).Left)
 | .k61,x=>((x:DCore).Regs,(x:DCore).Pc,(x:DCore).Root,(x:DCore).Vector,(x:DCore).Saved,(x:DCore).SavedUser,(x:DCore).Cause,(x:DCore).Bad,(x:DCore).Timer,(x:DCore).Waits,(x:DCore).User,(x:DCore).On,(x:DCore).Stopped)
 | .k64,x=>((x:DGuest).Live,(x:DGuest).C.Regs,(x:DGuest).C.Pc,(x:DGuest).C.Root,(x:DGuest).C.Vector,(x:DGuest).C.Saved,(x:DGuest).C.SavedUser,(x:DGuest).C.Cause,(x:DGuest).C.Bad,(x:DGuest).C.Timer,(x:DGuest).C.Waits,(x:DGuest).C.User,(x:DGuest).C.On,(x:DGuest).C.Stopped,(x:DGuest).Pages,(x:DGuest).In,(x:DGuest).Out)
 | .k66,x=>((x:DSlot).Frame,(x:DSlot).Write,(x:DSlot).Dirty)
 | .k81,x=>((x:DBare).C.Regs,(x:DBare).C.Pc,(x:DBare).C.Root,(x:DBare).C.Vector,(x:DBare).C.Saved,(x:DBare).C.SavedUser,(x:DBare).C.Cause,(x:DBare).C.Bad,(x:DBare).C.Timer,(x:DBare).C.Waits,(x:DBare).C.User,(x:DBare).C.On,(x:DBare).C.Stopped,(x:DBare).Mem,(x:DBare).In,(x:DBare).Out)
 | .k106,x=>((x:DAct).Kind,(x:DAct).Page)
 | .k109,x=>((x:Dl20Rd).b,(x:Dl20Rd).p)
 | .k130,x=>((x:DCore).Regs,(x:DCore).Pc,(x:DCore).Root,(x:DCore).Vector,(x:DCore).Saved,(x:DCore).SavedUser,(x:DCore).Cause,(x:DCore).Bad,(x:DCore).Timer,(x:DCore).Waits,(x:DCore).User,(x:DCore).On,(x:DCore).Stopped)
 | .k133,x=>((x:DGuest).Live,(x:DGuest).C.Regs,(x:DGuest).C.Pc,(x:DGuest).C.Root,(x:DGuest).C.Vector,(x:DGuest).C.Saved,(x:DGuest).C.SavedUser,(x:DGuest).C.Cause,(x:DGuest).C.Bad,(x:DGuest).C.Timer,(x:DGuest).C.Waits,(x:DGuest).C.User,(x:DGuest).C.On,(x:DGuest).C.Stopped,(x:DGuest).Pages,(x:DGuest).In,(x:DGuest).Out)
 | .k158,x=>((x:DIns).Op,(x:DIns).A,(x:DIns).N)
 | .k164,x=>((x:DShade).There,(x:DShade).Write,(x:DShade).User,(x:DShade).Page,(x:DShade).Frame,(x:DShade).Ready)
 | .k167,x=>((x:DEntry).There,(x:DEntry).Write,(x:DEntry).User,(x:DEntry).Page)
 | .k172,x=>((x:DSlot).Frame,(x:DSlot).Write,(x:DSlot).Dirty)
 | .k175,x=>((x:DExit).Why,(x:DExit).Page,(x:DExit).What.Op,(x:DExit).What.A,(x:DExit).What.N)
 | .k1061,x=>((x:DCore).Regs,(x:DCore).Pc,(x:DCore).Root,(x:DCore).Vector,(x:DCore).Saved,(x:DCore).SavedUser,(x:DCore).Cause,(x:DCore).Bad,(x:DCore).Timer,(x:DCore).Waits,(x:DCore).User,(x:DCore).On,(x:DCore).Stopped)
 | .k1064,x=>((x:DGuest).Live,(x:DGuest).C.Regs,(x:DGuest).C.Pc,(x:DGuest).C.Root,(x:DGuest).C.Vector,(x:DGuest).C.Saved,(x:DGuest).C.SavedUser,(x:DGuest).C.Cause,(x:DGuest).C.Bad,(x:DGuest).C.Timer,(x:DGuest).C.Waits,(x:DGuest).C.User,(x:DGuest).C.On,(x:DGuest).C.Stopped,(x:DGuest).Pages,(x:DGuest).In,(x:DGuest).Out)
 | .k1081,x=>((x:DBare).C.Regs,(x:DBare).C.Pc,(x:DBare).C.Root,(x:DBare).C.Vector,(x:DBare).C.Saved,(x:DBare).C.SavedUser,(x:DBare).C.Cause,(x:DBare).C.Bad,(x:DBare).C.Timer,(x:DBare).C.Waits,(x:DBare).C.User,(x:DBare).C.On,(x:DBare).C.Stopped,(x:DBare).Mem,(x:DBare).In,(x:DBare).Out)
 | .k1109,x=>((x:Dl20Rd).b,(x:Dl20Rd).p)
 | .k1130,x=>((x:DCore).Regs,(x:DCore).Pc,(x:DCore).Root,(x:DCore).Vector,(x:DCore).Saved,(x:DCore).SavedUser,(x:DCore).Cause,(x:DCore).Bad,(x:DCore).Timer,(x:DCore).Waits,(x:DCore).User,(x:DCore).On,(x:DCore).Stopped)
 | .k1133,x=>((x:DGuest).Live,(x:DGuest).C.Regs,(x:DGuest).C.Pc,(x:DGuest).C.Root,(x:DGuest).C.Vector,(x:DGuest).C.Saved,(x:DGuest).C.SavedUser,(x:DGuest).C.Cause,(x:DGuest).C.Bad,(x:DGuest).C.Timer,(x:DGuest).C.Waits,(x:DGuest).C.User,(x:DGuest).C.On,(x:DGuest).C.Stopped,(x:DGuest).Pages,(x:DGuest).In,(x:DGuest).Out)
 | .k2026,x=>((x:DHost).Words,(x:DHost).Guests)
 | .k2029,x=>((x:DMove).From.Words,(x:DMove).From.Guests,(x:DMove).To.Words,(x:DMove).To.Guests,(x:DMove).G,(x:DMove).N,(x:DMove).Left)
 | .k2042,x=>((x:DHost).Words,(x:DHost).Guests)
 | .k2044,x=>((x:DMove).From.Words,(x:DMove).From.Guests,(x:DMove).To.Words,(x:DMove).To.Guests,(x:DMove).G,(x:DMove).N,(x:DMove).Left)
def mkK:∀k,Tup tG (lfK k)->TyT k
 | .k3,a0=>a0
 | .k4,a0=>a0
 | .k5,a0=>a0
 | .k26,(a0,a1)=>(DHost.mk a0 a1)
 | .k29,(a0,a1,a2,a3,a4,a5,a6)=>(DMove.mk (DHost.mk a0 a1) (DHost.mk a2 a3) a4 a5 a6)
 | .k42,(a0,a1)=>(DHost.mk a0 a1)
 | .k44,(a0,a1,a2,a3,a4,a5,a6)=>(DMove.mk (DHost.mk a0 a1) (DHost.mk a2 a3) a4 a5 a6)
 | .k61,(a0,a1,a2,a3,a4,a5,a6,a7,a8,a9,a10,a11,a12)=>(DCore.mk a0 a1 a2 a3 a4 a5 a6 a7 a8 a9 a10 a11 a12)
 | .k64,(a0,a1,a2,a3,a4,a5,a6,a7,a8,a9,a10,a11,a12,a13,a14,a15,a16)=>(DGuest.mk a0 (DCore.mk a1 a2 a3 a4 a5 a6 a7 a8 a9 a10 a11 a12 a13) a14 a15 a16)
 | .k66,(a0,a1,a2)=>(DSlot.mk a0 a1 a2)
 | .k81,(a0,a1,a2,a3,a4,a5,a6,a7,a8,a9,a10,a11,a12,a13,a14,a15)=>(DBare.mk (DCore.mk a0 a1 a2 a3 a4 a5 a6 a7 a8 a9 a10 a11 a12) a13 a14 a15)
 | .k106,(a0,a1)=>(DAct.mk a0 a1)
 | .k109,(a0,a1)=>(Dl20Rd.mk a0 a1)
 | .k130,(a0,a1,a2,a3,a4,a5,a6,a7,a8,a9,a10,a11,a12)=>(DCore.mk a0 a1 a2 a3 a4 a5 a6 a7 a8 a9 a10 a11 a12)
 | .k133,(a0,a1,a2,a3,a4,a5,a6,a7,a8,a9,a10,a11,a12,a13,a14,a15,a16)=>(DGuest.mk a0 (DCore.mk a1 a2 a3 a4 a5 a6 a7 a8 a9 a10 a11 a12 a13) a14 a15 a16)
 | .k158,(a0,a1,a2)=>(DIns.mk a0 a1 a2)
 | .k164,(a0,a1,a2,a3,a4,a5)=>(DShade.mk a0 a1 a2 a3 a4 a5)
 | .k167,(a0,a1,a2,a3)=>(DEntry.mk a0 a1 a2 a3)
 | .k172,(a0,a1,a2)=>(DSlot.mk a0 a1 a2)
 | .k175,(a0,a1,a2,a3,a4)=>(DExit.mk a0 a1 (DIns.mk a2 a3 a4))
 | .k1061,(a0,a1,a2,a3,a4,a5,a6,a7,a8,a9,a10,a11,a12)=>(DCore.mk a0 a1 a2 a3 a4 a5 a6 a7 a8 a9 a10 a11 a12)
 | .k1064,(a0,a1,a2,a3,a4,a5,a6,a7,a8,a9,a10,a11,a12,a13,a14,a15,a16)=>(DGuest.mk a0 (DCore.mk a1 a2 a3 a4 a5 a6 a7 a8 a9 a10 a11 a12 a13) a14 a15 a16)
 | .k1081,(a0,a1,a2,a3,a4,a5,a6,a7,a8,a9,a10,a11,a12,a13,a14,a15)=>(DBare.mk (DCore.mk a0 a1 a2 a3 a4 a5 a6 a7 a8 a9 a10 a11 a12) a13 a14 a15)
 | .k1109,(a0,a1)=>(Dl20Rd.mk a0 a1)
 | .k1130,(a0,a1,a2,a3,a4,a5,a6,a7,a8,a9,a10,a11,a12)=>(DCore.mk a0 a1 a2 a3 a4 a5 a6 a7 a8 a9 a10 a11 a12)
 | .k1133,(a0,a1,a2,a3,a4,a5,a6,a7,a8,a9,a10,a11,a12,a13,a14,a15,a16)=>(DGuest.mk a0 (DCore.mk a1 a2 a3 a4 a5 a6 a7 a8 a9 a10 a11 a12 a13) a14 a15 a16)
 | .k2026,(a0,a1)=>(DHost.mk a0 a1)
 | .k2029,(a0,a1,a2,a3,a4,a5,a6)=>(DMove.mk (DHost.mk a0 a1) (DHost.mk a2 a3) a4 a5 a6)
 | .k2042,(a0,a1)=>(DHost.mk a0 a1)
 | .k2044,(a0,a1,a2,a3,a4,a5,a6)=>(DMove.mk (DHost.mk a0 a1) (DHost.mk a2 a3) a4 a5 a6)
def bGf(x:DHost):List AV:=[.bor (List.length x.Words) (fl (eI .i64) x.Words),.bor (List.length x.Guests) (fl gN x.Guests)]
theorem bHx:∀x,aE (bGf x)=true:=λx=>by simp only[bGf,aE,AV.noRef,Bool.and_self,aB bU,aB kD]
def bEy(x:DMove):List AV:=[.bor (List.length x.From.Words) (fl (eI .i64) x.From.Words),.bor (List.length x.From.Guests) (fl gN x.From.Guests),.bor (List.length x.To.Words) (fl (eI .i64) x.To.Words),.bor (List.length x.To.Guests) (fl gN x.To.Guests),.int .i64 x.G,.int .i64 x.N,.bor (List.length x.Left) (fl eB x.Left)]
theorem bHf:∀x,aE (bEy x)=true:=λx=>by simp only[bEy,aE,AV.noRef,Bool.and_self,aB bU,aB kD,aB wP]
def bFp(x:DHost):List AV:=[.bor (List.length x.Words) (fl (eI .i64) x.Words),.bor (List.length x.Guests) (fl rR x.Guests)]
theorem bHv:∀x,aE (bFp x)=true:=λx=>by simp only[bFp,aE,AV.noRef,Bool.and_self,aB bU,aB rG]
def bFw(x:DMove):List AV:=[.bor (List.length x.From.Words) (fl (eI .i64) x.From.Words),.bor (List.length x.From.Guests) (fl rR x.From.Guests),.bor (List.length x.To.Words) (fl (eI .i64) x.To.Words),.bor (List.length x.To.Guests) (fl rR x.To.Guests),.int .i64 x.G,.int .i64 x.N,.bor (List.length x.Left) (fl eB x.Left)]
theorem bHq:∀x,aE (bFw x)=true:=λx=>by simp only[bFw,aE,AV.noRef,Bool.and_self,aB bU,aB rG,aB wP]
def avK:∀k,TyT k->List AV
 | .k3=>eI .i64
 | .k4=>eB
 | .k5=>eI .u8
 | .k26=>gO
 | .k29=>aHd
 | .k42=>aFz
 | .k44=>aFu
 | .k61=>aDf
 | .k64=>fE
 | .k66=>eW
 | .k81=>nQ
 | .k106=>aDs
 | .k109=>wT
 | .k130=>wL
 | .k133=>qJ
 | .k158=>aEa
 | .k164=>aEd
 | .k167=>aEf
 | .k172=>uE
 | .k175=>aDu
 | .k1061=>aHn
 | .k1064=>gN
 | .k1081=>aGw
 | .k1109=>aAh
 | .k1130=>zN
 | .k1133=>rR
 | .k2026=>bGf
 | .k2029=>bEy
 | .k2042=>bFp
 | .k2044=>bFw
theorem clK:∀k x,plK k=true->aQ (avK k x)=true
 | .k3,x,_=>cV x
 | .k4,x,_=>aNr x
 | .k5,x,_=>cV x
 | .k26,x,_=>uM x
 | .k29,x,_=>aUv x
 | .k42,x,_=>aVn x
 | .k44,x,_=>aVq x
 | .k61,x,_=>aWi x
 | .k64,x,_=>xQ x
 | .k66,x,_=>xW x
 | .k81,x,_=>aLf x
 | .k106,x,_=>aOn x
 | .k109,x,_=>aRy x
 | .k130,x,_=>aSm x
 | .k133,x,_=>aAe x
 | .k158,x,_=>aPn x
 | .k164,x,_=>aSg x
 | .k167,x,_=>aTa x
 | .k172,x,_=>zQ x
 | .k175,x,_=>aTb x
 | .k1061,_,h=>by cases h
 | .k1064,_,h=>by cases h
 | .k1081,_,h=>by cases h
 | .k1109,_,h=>by cases h
 | .k1130,_,h=>by cases h
 | .k1133,_,h=>by cases h
 | .k2026,_,h=>by cases h
 | .k2029,_,h=>by cases h
 | .k2042,_,h=>by cases h
 | .k2044,_,h=>by cases h
theorem nrK:∀k x,aE (avK k x)=true
 | .k3,x=>bU x
 | .k4,x=>wP x
 | .k5,x=>bU x
 | .k26,x=>aDl x
 | .k29,x=>aEb x
 | .k42,x=>aEe x
 | .k44,x=>aEj x
 | .k61,x=>aDn x
 | .k64,x=>uO x
 | .k66,x=>kF x
 | .k81,x=>aDt x
 | .k106,x=>yZ x
 | .k109,x=>zM x
 | .k130,x=>yN x
 | .k133,x=>rB x
 | .k158,x=>yM x
 | .k164,x=>zX x
 | .k167,x=>zD x
 | .k172,x=>rJ x
 | .k175,x=>zB x
 | .k1061,x=>aDx x
 | .k1064,x=>kD x
 | .k1081,x=>aEi x
 | .k1109,x=>zO x
 | .k1130,x=>zZ x
 | .k1133,x=>rG x
 | .k2026,x=>bHx x
 | .k2029,x=>bHf x
 | .k2042,x=>bHv x
 | .k2044,x=>bHq x
theorem bOv:∀k,plK k=true->(lfK k).all (plL tG)=true
 | .k3,_=>rfl
 | .k4,_=>rfl
 | .k5,_=>rfl
 | .k26,_=>rfl
 | .k29,_=>rfl
 | .k42,_=>rfl
 | .k44,_=>rfl
 | .k61,_=>rfl
 | .k64,_=>rfl
 | .k66,_=>rfl
 | .k81,_=>rfl
 | .k106,_=>rfl
 | .k109,_=>rfl
 | .k130,_=>rfl
 | .k133,_=>rfl
 | .k158,_=>rfl
 | .k164,_=>rfl
 | .k167,_=>rfl
 | .k172,_=>rfl
 | .k175,_=>rfl
 | .k1061,h=>by cases h
 | .k1064,h=>by cases h
 | .k1081,h=>by cases h
 | .k1109,h=>by cases h
 | .k1130,h=>by cases h
 | .k1133,h=>by cases h
 | .k2026,h=>by cases h
 | .k2029,h=>by cases h
 | .k2042,h=>by cases h
 | .k2044,h=>by cases h
theorem bOh:∀k,elK k=true->(lfK k).all (elL tG)=true
 | .k3,_=>rfl
 | .k4,_=>rfl
 | .k5,_=>rfl
 | .k26,_=>rfl
 | .k29,_=>rfl
 | .k42,_=>rfl
 | .k44,_=>rfl
 | .k61,_=>rfl
 | .k64,_=>rfl
 | .k66,_=>rfl
 | .k81,_=>rfl
 | .k106,_=>rfl
 | .k109,_=>rfl
 | .k130,_=>rfl
 | .k133,_=>rfl
 | .k158,_=>rfl
 | .k164,_=>rfl
 | .k167,_=>rfl
 | .k172,_=>rfl
 | .k175,_=>rfl
 | .k1061,_=>rfl
 | .k1064,_=>rfl
 | .k1081,_=>rfl
 | .k1109,_=>rfl
 | .k1130,_=>rfl
 | .k1133,_=>rfl
 | .k2026,h=>by cases h
 | .k2029,h=>by cases h
 | .k2042,h=>by cases h
 | .k2044,h=>by cases h
theorem bOf:∀k,elK k=true->plK (kk (unK k))=true
 | .k3,_=>rfl
 | .k4,_=>rfl
 | .k5,_=>rfl
 | .k26,_=>rfl
 | .k29,_=>rfl
 | .k42,_=>rfl
 | .k44,_=>rfl
 | .k61,_=>rfl
 | .k64,_=>rfl
 | .k66,_=>rfl
 | .k81,_=>rfl
 | .k106,_=>rfl
 | .k109,_=>rfl
 | .k130,_=>rfl
 | .k133,_=>rfl
 | .k158,_=>rfl
 | .k164,_=>rfl
 | .k167,_=>rfl
 | .k172,_=>rfl
 | .k175,_=>rfl
 | .k1061,_=>rfl
 | .k1064,_=>rfl
 | .k1081,_=>rfl
 | .k1109,_=>rfl
 | .k1130,_=>rfl
 | .k1133,_=>rfl
 | .k2026,h=>by cases h
 | .k2029,h=>by cases h
 | .k2042,h=>by cases h
 | .k2044,h=>by cases h
theorem thK:∀k x,elK k=true->(avK k x).map AV.thaw=avK (kk (unK k)) (cast (tuK k) x)
 | .k3,x,_=>by kernel_rfl
 | .k4,x,_=>by kernel_rfl
 | .k5,x,_=>by kernel_rfl
 | .k26,x,_=>by kernel_rfl
 | .k29,x,_=>by kernel_rfl
 | .k42,x,_=>by kernel_rfl
 | .k44,x,_=>by kernel_rfl
 | .k61,x,_=>by kernel_rfl
 | .k64,x,_=>by kernel_rfl
 | .k66,x,_=>by kernel_rfl
 | .k81,x,_=>by kernel_rfl
 | .k106,x,_=>by kernel_rfl
 | .k109,x,_=>by kernel_rfl
 | .k130,x,_=>by kernel_rfl
 | .k133,x,_=>by kernel_rfl
 | .k158,x,_=>by kernel_rfl
 | .k164,x,_=>by kernel_rfl
 | .k167,x,_=>by kernel_rfl
 | .k172,x,_=>by kernel_rfl
 | .k175,x,_=>by kernel_rfl
 | .k1061,x,_=>by kernel_rfl
 | .k1064,x,_=>by kernel_rfl
 | .k1081,x,_=>by kernel_rfl
 | .k1109,x,_=>by kernel_rfl
 | .k1130,x,_=>by kernel_rfl
 | .k1133,x,_=>by kernel_rfl
 | .k2026,_,h=>by cases h
 | .k2029,_,h=>by cases h
 | .k2042,_,h=>by cases h
 | .k2044,_,h=>by cases h
theorem shK:∀k x,elK k=true->Shal (avK k x)
 | .k3,x,_=>fT (dB x)
 | .k4,x,_=>fT (bGs x)
 | .k5,x,_=>fT (dB x)
 | .k26,x,_=>fT (aWk x)
 | .k29,x,_=>fT (aWj x)
 | .k42,x,_=>fT (aUf x)
 | .k44,x,_=>fT (aWp x)
 | .k61,x,_=>fT (aTz x)
 | .k64,x,_=>fT (aWd x)
 | .k66,x,_=>fT (aDm x)
 | .k81,x,_=>fT (aUw x)
 | .k106,x,_=>fT (aPt x)
 | .k109,x,_=>fT (aQm x)
 | .k130,x,_=>fT (aRs x)
 | .k133,x,_=>fT (aQq x)
 | .k158,x,_=>fT (aQp x)
 | .k164,x,_=>fT (aOm x)
 | .k167,x,_=>fT (aSk x)
 | .k172,x,_=>fT (yY x)
 | .k175,x,_=>fT (aRh x)
 | .k1061,x,_=>bJb x
 | .k1064,x,_=>bHp x
 | .k1081,x,_=>bIv x
 | .k1109,x,_=>bFr x
 | .k1130,x,_=>bDp x
 | .k1133,x,_=>bFb x
 | .k2026,_,h=>by cases h
 | .k2029,_,h=>by cases h
 | .k2042,_,h=>by cases h
 | .k2044,_,h=>by cases h
theorem ckK{a b:Prop}(h:a)(e:a=b:=by kernel_rfl):b:=e▸h
theorem bMy:∀k,elK k=true->kH (avK k) (λx=>avK (kk (unK k)) (cast (tuK k) x))
 | .k3,_=>ckK (eR (c:=eI .i64) dB cV)
 | .k4,_=>ckK (eR (c:=eB) bGs aNr)
 | .k5,_=>ckK (eR (c:=eI .u8) dB cV)
 | .k26,_=>ckK (eR (c:=gO) aWk uM)
 | .k29,_=>ckK (eR (c:=aHd) aWj aUv)
 | .k42,_=>ckK (eR (c:=aFz) aUf aVn)
 | .k44,_=>ckK (eR (c:=aFu) aWp aVq)
 | .k61,_=>ckK (eR (c:=aDf) aTz aWi)
 | .k64,_=>ckK (eR (c:=fE) aWd xQ)
 | .k66,_=>ckK (eR (c:=eW) aDm xW)
 | .k81,_=>ckK (eR (c:=nQ) aUw aLf)
 | .k106,_=>ckK (eR (c:=aDs) aPt aOn)
 | .k109,_=>ckK (eR (c:=wT) aQm aRy)
 | .k130,_=>ckK (eR (c:=wL) aRs aSm)
 | .k133,_=>ckK (eR (c:=qJ) aQq aAe)
 | .k158,_=>ckK (eR (c:=aEa) aQp aPn)
 | .k164,_=>ckK (eR (c:=aEd) aOm aSg)
 | .k167,_=>ckK (eR (c:=aEf) aSk aTa)
 | .k172,_=>ckK (eR (c:=uE) yY zQ)
 | .k175,_=>ckK (eR (c:=aDu) aRh aTb)
 | .k1061,_=>ckK bIh
 | .k1064,_=>ckK aUo
 | .k1081,_=>ckK bHl
 | .k1109,_=>ckK bDj
 | .k1130,_=>ckK bDd
 | .k1133,_=>ckK bEv
 | .k2026,h=>by cases h
 | .k2029,h=>by cases h
 | .k2042,h=>by cases h
 | .k2044,h=>by cases h
def tG1:TS1:=⟨tG,λc=>prK (kk c),λc=>mkK (kk c),λc=>avK (kk c)⟩
theorem bOb:∀k x,avK k x=trs tG1 (bN tG (lfK k) (prK k x))
 | .k3,x=>by kernel_rfl
 | .k4,x=>by kernel_rfl
 | .k5,x=>by kernel_rfl
 | .k26,x=>by kernel_rfl
 | .k29,x=>by kernel_rfl
 | .k42,x=>by kernel_rfl
 | .k44,x=>by kernel_rfl
 | .k61,x=>by kernel_rfl
 | .k64,x=>by kernel_rfl
 | .k66,x=>by kernel_rfl
 | .k81,x=>by kernel_rfl
 | .k106,x=>by kernel_rfl
 | .k109,x=>by kernel_rfl
 | .k130,x=>by kernel_rfl
 | .k133,x=>by kernel_rfl
 | .k158,x=>by kernel_rfl
 | .k164,x=>by kernel_rfl
 | .k167,x=>by kernel_rfl
 | .k172,x=>by kernel_rfl
 | .k175,x=>by kernel_rfl
 | .k1061,x=>by kernel_rfl
 | .k1064,x=>by kernel_rfl
 | .k1081,x=>by kernel_rfl
 | .k1109,x=>by kernel_rfl
 | .k1130,x=>by kernel_rfl
 | .k1133,x=>by kernel_rfl
 | .k2026,x=>by kernel_rfl
 | .k2029,x=>by kernel_rfl
 | .k2042,x=>by kernel_rfl
 | .k2044,x=>by kernel_rfl
theorem bOr:∀k t,prK k (mkK k t)=t
 | .k3,t=>by kernel_rfl
 | .k4,t=>by kernel_rfl
 | .k5,t=>by kernel_rfl
 | .k26,t=>by kernel_rfl
 | .k29,t=>by kernel_rfl
 | .k42,t=>by kernel_rfl
 | .k44,t=>by kernel_rfl
 | .k61,t=>by kernel_rfl
 | .k64,t=>by kernel_rfl
 | .k66,t=>by kernel_rfl
 | .k81,t=>by kernel_rfl
 | .k106,t=>by kernel_rfl
 | .k109,t=>by kernel_rfl
 | .k130,t=>by kernel_rfl
 | .k133,t=>by kernel_rfl
 | .k158,t=>by kernel_rfl
 | .k164,t=>by kernel_rfl
 | .k167,t=>by kernel_rfl
 | .k172,t=>by kernel_rfl
 | .k175,t=>by kernel_rfl
 | .k1061,t=>by kernel_rfl
 | .k1064,t=>by kernel_rfl
 | .k1081,t=>by kernel_rfl
 | .k1109,t=>by kernel_rfl
 | .k1130,t=>by kernel_rfl
 | .k1133,t=>by kernel_rfl
 | .k2026,t=>by kernel_rfl
 | .k2029,t=>by kernel_rfl
 | .k2042,t=>by kernel_rfl
 | .k2044,t=>by kernel_rfl
theorem bOc:∀k,0<(lfK k).length
 | .k3=>by decide
 | .k4=>by decide
 | .k5=>by decide
 | .k26=>by decide
 | .k29=>by decide
 | .k42=>by decide
 | .k44=>by decide
 | .k61=>by decide
 | .k64=>by decide
 | .k66=>by decide
 | .k81=>by decide
 | .k106=>by decide
 | .k109=>by decide
 | .k130=>by decide
 | .k133=>by decide
 | .k158=>by decide
 | .k164=>by decide
 | .k167=>by decide
 | .k172=>by decide
 | .k175=>by decide
 | .k1061=>by decide
 | .k1064=>by decide
 | .k1081=>by decide
 | .k1109=>by decide
 | .k1130=>by decide
 | .k1133=>by decide
 | .k2026=>by decide
 | .k2029=>by decide
 | .k2042=>by decide
 | .k2044=>by decide
def tS:TS2:=⟨tG1,λc x=>bOb (kk c) x,λc t=>bOr (kk c) t,λc=>bOc (kk c),λc x=>clK (kk c) x,λc x=>nrK (kk c) x,λc=>bOv (kk c),λc=>bOh (kk c),λc x=>thK (kk c) x,λc x=>shK (kk c) x,λc=>bMy (kk c),λc=>bOf (kk c)⟩
abbrev Sok(f:Nat)(g:Sg tG):Prop:=SgP tG1 Try.prog f (avR tG1 g.r) g.ps [] g.F
abbrev Sjk(f:Nat)(g:Sw tG):Prop:=SjP tG1 Try.prog f g.r g.qs g.qs [] TH.emp 0 g.F
abbrev Sop(f:Nat)(g:So tG):Prop:=SoP tG1 Try.prog f g.c g.ps [] g.F
def cxL(l:List (Nat×Sx tG)):Ctx tG:=λk=>match l with
 |[]=>none
 |(f,s)::l=>match Nat.beq f k with|true=>some s|false=>cxL l k
def CxP:List (Nat×Sx tG)->Prop
 |[]=>True
 |(f,s)::l=>bLd tG1 Try.prog f s/\CxP l
theorem aRf:∀{l:List (Nat×Sx tG)},CxP l->nG tG1 Try.prog (cxL l)
 |[],_=>λf s h=>by simp only[cxL]at h;cases h
 |(f0,s0)::l,hl=>λf s h=>by simp only[cxL]at h;split at h;{rename_i e;have:=Nat.eq_of_beq_eq_true e;subst this;cases h;exact hl.1};{exact aRf hl.2 f s h}
theorem sgx{f:Nat}{g:Sg tG}(l:List (Nat×Sx tG))(hl:CxP l)(A:An)(h:aYp tG1 (cxL l) (sZ Try.prog f) A g.r g.ps [] 0=g.F)(h1:(gX Try.prog f).isSome=true)(h2:(Nat.ble g.ps.length (sZ Try.prog f).ntmps&&wfR tG g.r&&g.ps.all (wfA tG))=true):Sok f g:=sg (τ:=tS) (aRf hl) f A g.r g.ps g.F h h1 h2
theorem sgy{f:Nat}{g:Sw tG}(l:List (Nat×Sx tG))(hl:CxP l)(A:An)(h:aYq tG1 (cxL l) (sZ Try.prog f) A g.r g.qs g.qs [] TH.emp 0 0=g.F)(h1:(gX Try.prog f).isSome=true)(h2:(Nat.ble g.qs.length (sZ Try.prog f).ntmps&&wfR tG g.r&&g.qs.all (wfQ tG))=true):Sjk f g:=sgw (τ:=tS) (aRf hl) f A g.r g.qs g.F h h1 h2
theorem kc{a b:Prop}(h:a)(e:a=b:=by kernel_rfl):b:=e▸h
end Go.Proofs.Ytcgggihjcelmhaa
